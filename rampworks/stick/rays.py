"""Cells of planes, told by the rays in which enough of the planes meet: each cell has one at its border."""

from rampworks.base.choices import across, lots_of_indices
from rampworks.base.linear import tells
from rampworks.hull.cuts import independent_places


def all_signs(many):
    """All tuples of so many signs."""
    found = [()]
    for _ in range(many):
        found = [(*signs, sign) for signs in found for sign in (-1, 1)]
    return found


def cells_round(sticks):
    """The cells of sticks, none of them zeros, as the keys of a dict."""
    places = independent_places(((0,) * len(sticks[0]), *sticks))
    return cells_in_all([tuple([stick[at] for at in places]) for stick in sticks])


def cells_in_all(rows):
    """The same for rows of which as many are independent as they have members."""
    length, half = len(rows[0]), {}
    if length == 1:
        half = {tuple([1 if row[0] > 0 else -1 for row in rows]): True}
    else:
        put_at_rays(rows, half)
    found = {}
    for signs in half:
        found[signs] = True
        found[tuple([-sign for sign in signs])] = True
    return found


def put_at_rays(rows, found):
    """Puts the cells at one end of each ray to those found."""
    size, seen = len(rows[0]) - 1, {}
    plain = all_signs(size)
    for lot in lots_of_indices(len(rows), size):
        ray = across([rows[k] for k in lot])
        if not any(ray):
            continue
        told = tells(ray, rows)
        meeting = [k for k, x in enumerate(told) if x == 0]
        if len(meeting) > size:
            key = tuple(meeting)
            if key in seen:
                continue
            seen[key] = True
        around = plain if len(meeting) == size else cells_round([rows[k] for k in meeting])
        base = [1 if x > 0 else -1 for x in told]
        for signs in around:
            for k, sign in zip(meeting, signs):
                base[k] = sign
            found[tuple(base)] = True
