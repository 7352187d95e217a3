"""Plans: lists of deeds that are done to a machine one behind the other."""

from twoimages.cells import GREATEST_WORTH, LATEST_CUT, TORN
from twoimages.checks import is_number
from twoimages.errors import BadDeed, BadManifest, BadStores, Stopped
from twoimages.manifests import check_manifest, check_stores
from twoimages.pictures import SLOT_CELLS

MOST_DEEDS = 200


def played(machine, deeds):
    """Do a plan, and tell what each of its deeds tells."""
    check_plan(deeds)
    return [outcome(machine, deed) for deed in deeds]


def led_over(machine, manifest, stores):
    """Lead a machine over to a new picture: lay it, try it, trust it, and lay it in both slots."""
    check_manifest(manifest)
    check_stores(stores)
    return played(machine, [("start",), ("update", manifest, stores), ("start",), ("yes",), ("double",)])


def check_plan(deeds):
    """Refuse what can't be a plan, by the number of the first deed that can't be."""
    for number, deed in enumerate(deeds):
        if number >= MOST_DEEDS or not is_deed(deed):
            raise BadDeed(number)


def is_deed(deed):
    """Tell whether this can be a deed of a plan."""
    match deed:
        case ("start",) | ("yes",) | ("double",):
            return True
        case ("update", manifest, stores):
            return may_be_asked(manifest, stores)
        case ("cut", many, torn):
            return is_number(many, 0, LATEST_CUT) and torn in TORN
        case ("spoil", slot, at, worth):
            held = worth is None or is_number(worth, 0, GREATEST_WORTH)
            return held and is_number(slot, 0, 1) and is_number(at, 0, SLOT_CELLS - 1)
    return False


def may_be_asked(manifest, stores):
    """Tell whether an update may be asked with these."""
    try:
        check_manifest(manifest)
        check_stores(stores)
    except (BadManifest, BadStores):
        return False
    return True


def outcome(machine, deed):
    """Do one deed, and tell what it tells; where power goes in it, it is there again at once."""
    try:
        return done(machine, deed)
    except Stopped:
        machine.up()
        return ("stopped",)


def done(machine, deed):
    """Do one deed, and tell what it tells."""
    match deed:
        case ("start",):
            return machine.start()
        case ("yes",):
            return machine.yes()
        case ("double",):
            return machine.double()
        case ("update", manifest, stores):
            return machine.update(manifest, stores)
        case ("cut", many, torn):
            machine.cut(many, torn)
        case ("spoil", slot, at, worth):
            machine.spoil(slot, at, worth)
    return None
