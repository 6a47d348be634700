"""How many corners the lots of a network's reading have at most, told by how many units it has.

A lot tells one form in each of the cells into which the planes of units part the space, so it has no more corners than
there are cells.
"""

from math import comb


def cells_of(length, many):
    """Into how many cells so many planes through 0 part the space at most."""
    if many == 0:
        return 1
    return 2 * many if length == 2 else 2 * sum([comb(many - 1, k) for k in range(length)])


def cells_in(length, many):
    """Into how many cells so many planes through 0 part a cell, on one side of some plane, at most."""
    return many + 1 if length == 2 else sum([comb(many, k) for k in range(length)])


def cells_behind(cells, length, many):
    """How many cells there are at most if so many planes part what is parted into cells by planes ahead of them."""
    return cells_of(length, many) if cells == 1 else cells * cells_in(length, many)


def corners_bound(network, most):
    """The most corners of both lots of the reading; None unless all lots on the way surely have at most so many."""
    if network.inputs == 1 or network.depth == 0:
        return 2, 2
    length, cells = network.inputs, 1
    for layer in network.layers[:-1]:
        cells = cells_behind(cells, length, len(layer))
    weights = network.last[-len(network.layers[-1]):]
    above = cells_behind(cells, length, len([x for x in weights if x > 0]))
    below = cells_behind(cells, length, len([x for x in weights if x < 0]))
    # A unit of the last layer joins two lots that tell one form in each cell.
    return None if max(2 * cells, above, below) > most else (above, below)


def is_surely_read(network, most):
    """Whether all lots on the way to the reading of a network surely have at most so many corners."""
    return corners_bound(network, most) is not None


def are_surely_crossed(one, other, most, most_pairs):
    """Whether two networks surely have readings as above, and few pairs of corners in each crossed sum."""
    left, right = corners_bound(one, most), corners_bound(other, most)
    if left is None or right is None:
        return False
    return left[0] * right[1] <= most_pairs and right[0] * left[1] <= most_pairs
