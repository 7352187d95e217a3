"""Twoimages: a start that never strands a machine."""
