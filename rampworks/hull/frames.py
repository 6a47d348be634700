"""Frames of lots of corners alone, of at most four members: their edges, and a form for each corner."""

from rampworks.base.linear import content_of, difference_of, sum_of
from rampworks.hull.borders import way_round
from rampworks.hull.cuts import independent_places
from rampworks.hull.shells import edges_between, faces_of, shell_of


def widened_form(form, places, length):
    """The form in lowest terms, with its members at these places, and 0 else."""
    found, size = [0] * length, max(1, content_of(form))
    for place, x in zip(places, form):
        found[place] = x // size
    return tuple(found)


def plane_frame(tips):
    """The edges and forms of corners of two members that do not lie on a line."""
    places = {tip: at for at, tip in enumerate(tips)}
    way = way_round(sorted(tips))
    edges, forms = [], [(0, 0)] * len(tips)
    for one, other in zip(way, way[1:] + way[:1]):
        x, y = difference_of(other, one)
        pair = (places[one], places[other])
        edges.append((min(pair), max(pair)))
        for at in pair:
            forms[at] = sum_of(forms[at], (y, -x))
    return sorted(edges), forms


def shell_frame(tips):
    """The same of three or four members that do not lie on one plane."""
    shell = shell_of(tips)
    places, forms = {tip: at for at, tip in enumerate(tips)}, [(0,) * len(tips[0])] * len(tips)
    for facet in shell.facets:
        form = shell.facets[facet][:-1]
        for index in facet:
            at = places[shell.points[index]]
            forms[at] = sum_of(forms[at], form)
    return edges_between(faces_of(shell, tips)), forms


def frame_of(tips):
    """The ascending pairs of indices of corners that are edges, and for each corner a form greatest at it alone."""
    return frame_at(tips, independent_places(tips))


def frame_at(tips, places):
    """The same by at most four places of members that are enough to tell all corners apart."""
    length = len(tips[0])
    if not places:
        return [], [(0,) * length]
    narrow = [tuple([tip[at] for at in places]) for tip in tips]
    if len(places) == 1:
        lead = difference_of(narrow[1], narrow[0])
        edges, forms = [(0, 1)], [(-lead[0],), lead]
    elif len(places) == 2:
        edges, forms = plane_frame(narrow)
    else:
        edges, forms = shell_frame(narrow)
    return edges, [widened_form(form, places, length) for form in forms]
