"""Books of records, each in two pages, so that one of them is always whole."""

from twoimages.cells import check_worth
from twoimages.checks import check_handed
from twoimages.sums import sums

PAGE_CELLS = 6
BOOK_CELLS = 12
SUMMED_CELLS = 4


def record(memory, place):
    """Tell the newest record of a book as a tuple, None if there is none."""
    pages = both_pages(memory, place)
    newest = newest_of(pages)
    if newest is None:
        return None
    return tuple(pages[newest][1:SUMMED_CELLS])


def note(memory, place, row):
    """Write a record in the page that isn't the newest one."""
    check_handed(memory, place, BOOK_CELLS, row)
    pages = both_pages(memory, place)
    number = 1 + max([number_of(page) for page in pages])
    # A book that is full would be refused by the last write only, when the page is spoilt already.
    check_worth(number)
    one, two = sums([number, *row])
    first = place + PAGE_CELLS * page_to_write(pages)
    # While its number is 0 the page is none, whatever else has come into it by then.
    for at, worth in enumerate([0, *row, one, two], start=first):
        memory.write(at, worth)
    memory.write(first, number)


def both_pages(memory, place):
    """Tell what the cells of both pages hold."""
    cells = memory.row(place, BOOK_CELLS)
    return [cells[:PAGE_CELLS], cells[PAGE_CELLS:]]


def number_of(page):
    """Tell a page's number, 0 if the page is none."""
    # Broken cells need no look of their own: no sums are theirs, and they are no sums.
    if sums(page[:SUMMED_CELLS]) != tuple(page[SUMMED_CELLS:]):
        return 0
    return page[0]


def newest_of(pages):
    """Tell which page has the greatest number, None if there is no page."""
    first, second = [number_of(page) for page in pages]
    if first == 0 and second == 0:
        return None
    return 0 if first >= second else 1


def page_to_write(pages):
    """Tell which page the next record goes in."""
    newest = newest_of(pages)
    if newest is None:
        return 0
    return 1 - newest
