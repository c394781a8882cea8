"""Partings written as texts, and read from them."""

from nocrossing.errors import NoNote
from nocrossing.partings import is_parting, points_in, refuse_no_parting

FIGURES = "0123456789"


def block_shown(block):
    return "".join([FIGURES[point] for point in block])


def shown(points, blocks):
    refuse_no_parting(points, blocks)
    return "|".join([block_shown(block) for block in blocks])


def block_read(part):
    # A sign that is no figure is found at -1, which is no point of any ring.
    return [FIGURES.find(sign) for sign in part]


def blocks_read(text):
    # The empty text writes no block at all; split would make one empty block of it.
    if text == "":
        return []
    return [block_read(part) for part in text.split("|")]


def read(text):
    blocks = blocks_read(text)
    points = len(points_in(blocks))
    if not is_parting(points, blocks):
        raise NoNote("the text writes no parting")
    return (points, blocks)
