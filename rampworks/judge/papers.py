"""Papers for claims: for each kind of claim the word that is true, and a paper that shows it."""

from rampworks.base.linear import difference_of, sum_of, times
from rampworks.base.rows import whole_or_test
from rampworks.hull.corners import alike_or_row, corner_or_weights, corners_of
from rampworks.hull.cuts import greatest_value
from rampworks.hull.matches import trial_rows, unlike_row
from rampworks.hull.simplices import volume_of
from rampworks.hull.totals import moved_by
from rampworks.hull.volumes import parting
from rampworks.judge.covers import cover_of, sums_of
from rampworks.net.alike import rows_apart
from rampworks.stick.layer import layer_or_places


def value_told(reading, row):
    """What a reading tells for a row of integers of any length."""
    return greatest_value(reading[0], row) - greatest_value(reading[1], row)


def excess_told(reading, x, y):
    """How much more a reading tells for the sum of two rows than for both together."""
    return value_told(reading, sum_of(x, y)) - value_told(reading, x) - value_told(reading, y)


def crossed_sums(one, other):
    """The lots of all sums of a point of P and one of Q', and of a point of P' and one of Q."""
    return sums_of(one[0], other[1]), sums_of(other[0], one[1])


def about_point(claim):
    """Whether a point is a corner."""
    told = corner_or_weights(claim[1], claim[2])
    return ("corner", told[1]) if told[0] == "corner" else ("within", told[1:])


def about_lots(claim):
    """Whether two lots are alike."""
    _, lot, other = claim
    told = alike_or_row(lot, other)
    return ("alike", cover_of(lot, other)) if told[0] == "alike" else ("unlike", told[1])


def about_lot(claim):
    """Whether the vol of a lot is above 0."""
    word, paper = parting(claim[1])
    return "full" if word == "parted" else word, paper


def about_readings(claim):
    """Whether two readings tell the same."""
    _, one, other = claim
    above, below = corners_of(one[0]), corners_of(one[1])
    further, beneath = corners_of(other[0]), corners_of(other[1])
    row = unlike_row((above, beneath), (further, below))
    if row is not None:
        return "differ", row
    left, right = crossed_sums(one, other)
    return "agree", cover_of(left, right)


def tried_bent(reading):
    """Two short rows for whose sum a reading tells not the sum, None if none were met."""
    rows = trial_rows(len(reading[0][0]))
    for x, y in [(row, times(row, -1)) for row in rows] + list(zip(rows, rows[1:])):
        if excess_told(reading, x, y) != 0:
            return x, y
    return None


def about_form(claim):
    """Whether a reading tells one form."""
    above, below = corners_of(claim[1][0]), corners_of(claim[1][1])
    form = difference_of(above[0], below[0])
    moved = moved_by(below, form)
    if moved == above:
        return "straight", (form, cover_of(claim[1][0], moved_by(claim[1][1], form)))
    rows = tried_bent((above, below))
    if rows is None:
        zeros = ((0,) * len(form),)
        row = unlike_row((above, zeros), (moved, zeros))
        # The least points of both lots are greatest for one form.
        rows = rows_apart((above, below), (above[0], below[0]), row)
    return "bent", rows


def about_parity(claim):
    """Whether the vols of both lots are odd together."""
    above, below = claim[1]
    odd = (volume_of(above) + volume_of(below)) % 2 == 1
    return "odd" if odd else "even", (parting(above), parting(below))


def about_layer(claim):
    """Whether one layer tells a reading."""
    told = layer_or_places(claim[1])
    return ("single", told[1]) if told[0] == "layer" else ("several", told[1:])


def about_rows(claim):
    """Whether a goal is a whole sum of rows."""
    told = whole_or_test(claim[1], claim[2])
    return ("whole", told[1]) if told[0] == "whole" else ("broken", told[1:])


MAKERS = {
    "corner": about_point, "within": about_point, "alike": about_lots, "unlike": about_lots, "full": about_lot,
    "flat": about_lot, "agree": about_readings, "differ": about_readings, "straight": about_form, "bent": about_form,
    "odd": about_parity, "even": about_parity, "single": about_layer, "several": about_layer, "whole": about_rows,
    "broken": about_rows}


def answer_to(claim):
    """The word of a claim or of its opposite, whichever is true, and a paper for it."""
    make = MAKERS[claim[0]]
    return make(claim)
