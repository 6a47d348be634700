"""Claims about lots, readings and rows, and papers: of each claim and its opposite just one has papers."""

from rampworks.base.checks import is_short, is_whole_row
from rampworks.base.linear import determinant_of, difference_of
from rampworks.base.rows import are_rows, is_row, is_whole_or_test
from rampworks.errors import InvalidClaim
from rampworks.hull.corners import is_corner_or_weights, is_lot
from rampworks.hull.cuts import greatest_value
from rampworks.hull.totals import moved_by
from rampworks.hull.volumes import is_parting
from rampworks.judge.covers import is_cover
from rampworks.judge.papers import answer_to, crossed_sums, excess_told, value_told
from rampworks.net.readings import is_reading
from rampworks.stick.layer import is_layer_or_places

MOST_IN_CLAIM = 20
MOST_IN_READING = 12
MOST_WIDE = 4
OPPOSITE = {
    "corner": "within", "within": "corner", "alike": "unlike", "unlike": "alike", "full": "flat", "flat": "full",
    "agree": "differ", "differ": "agree", "straight": "bent", "bent": "straight", "odd": "even", "even": "odd",
    "single": "several", "several": "single", "whole": "broken", "broken": "whole"}


def is_small_lot(value):
    """Whether the value is a lot for claims."""
    return is_lot(value) and len(value) <= MOST_IN_CLAIM and len(value[0]) <= MOST_WIDE


def is_small_reading(value):
    """Whether the value is a reading for claims."""
    if not is_reading(value) or len(value[0][0]) > MOST_WIDE:
        return False
    return len(value[0]) <= MOST_IN_READING and len(value[1]) <= MOST_IN_READING


def is_about_point(value):
    """Whether behind the word stand a lot and the index of a point."""
    return len(value) == 3 and is_small_lot(value[1]) and is_short(value[2]) and 0 <= value[2] < len(value[1])


def is_about_lots(value):
    """Whether behind the word stand two lots of one length."""
    if len(value) != 3 or not is_small_lot(value[1]) or not is_small_lot(value[2]):
        return False
    return len(value[1][0]) == len(value[2][0])


def is_about_lot(value):
    """Whether behind the word stands a lot."""
    return len(value) == 2 and is_small_lot(value[1])


def is_about_readings(value):
    """Whether behind the word stand two readings of one length."""
    if len(value) != 3 or not is_small_reading(value[1]) or not is_small_reading(value[2]):
        return False
    return len(value[1][0][0]) == len(value[2][0][0])


def is_about_reading(value):
    """Whether behind the word stands a reading."""
    return len(value) == 2 and is_small_reading(value[1])


def is_about_parity(value):
    """Whether behind the word stands a reading that has a parity."""
    return is_about_reading(value) and len(value[1][0][0]) != 3


def is_about_rows(value):
    """Whether behind the word stand rows and a row of their length."""
    return len(value) == 3 and are_rows(value[1]) and is_row(value[2]) and len(value[1][0]) == len(value[2])


FORMS = {
    "corner": is_about_point, "within": is_about_point, "alike": is_about_lots, "unlike": is_about_lots,
    "full": is_about_lot, "flat": is_about_lot, "agree": is_about_readings, "differ": is_about_readings,
    "straight": is_about_reading, "bent": is_about_reading, "odd": is_about_parity, "even": is_about_parity,
    "single": is_about_reading, "several": is_about_reading, "whole": is_about_rows, "broken": is_about_rows}


def is_claim(value):
    """Whether the value is a claim."""
    if not isinstance(value, tuple) or not value or not isinstance(value[0], str) or value[0] not in FORMS:
        return False
    is_form = FORMS[value[0]]
    return is_form(value)


def need_claim(claim):
    """Refuses what is no claim."""
    if not is_claim(claim):
        raise InvalidClaim("this is no claim")


def opposite(claim):
    """The opposite claim."""
    need_claim(claim)
    return (OPPOSITE[claim[0]], *claim[1:])


def is_pair(value):
    """Whether the value is a tuple of two."""
    return isinstance(value, tuple) and len(value) == 2


def takes_corner(claim, paper):
    """Whether the paper is a form that is greater at the point than at all others."""
    return is_corner_or_weights(claim[1], claim[2], ("corner", paper))


def takes_within(claim, paper):
    """Whether the paper is a number and weights for the other points."""
    return is_pair(paper) and is_corner_or_weights(claim[1], claim[2], ("weights", *paper))


def takes_alike(claim, paper):
    """Whether the paper is a cover of both lots."""
    return is_cover(claim[1], claim[2], paper)


def takes_unlike(claim, paper):
    """Whether the paper is a row at which the values of both lots are unlike."""
    _, lot, other = claim
    return is_whole_row(paper, len(lot[0])) and greatest_value(lot, paper) != greatest_value(other, paper)


def takes_full(claim, paper):
    """Whether the paper is a parting."""
    return is_parting(claim[1], ("parted", paper))


def takes_flat(claim, paper):
    """Whether the paper is a row, not zeros, that tells one number for all points."""
    return is_parting(claim[1], ("flat", paper))


def takes_agree(claim, paper):
    """Whether the paper is a cover of both crossed sums."""
    left, right = crossed_sums(claim[1], claim[2])
    return is_cover(left, right, paper)


def takes_differ(claim, paper):
    """Whether the paper is a row at which the readings tell unlike numbers."""
    _, one, other = claim
    return is_whole_row(paper, len(one[0][0])) and value_told(one, paper) != value_told(other, paper)


def takes_straight(claim, paper):
    """Whether the paper is a row, and a cover of P and of Q moved by it."""
    above, below = claim[1]
    if not is_pair(paper) or not is_whole_row(paper[0], len(above[0])):
        return False
    return is_cover(above, moved_by(below, paper[0]), paper[1])


def takes_bent(claim, paper):
    """Whether the paper is a pair of rows for whose sum not the sum is told."""
    length = len(claim[1][0][0])
    if not is_pair(paper) or not is_whole_row(paper[0], length) or not is_whole_row(paper[1], length):
        return False
    return excess_told(claim[1], paper[0], paper[1]) != 0


def volume_in(lot, paper):
    """vol of a lot, told by a parting, or by a row for a flat one."""
    total = 0
    if paper[0] == "parted":
        for simplex in paper[1]:
            first = lot[simplex[0]]
            total += abs(determinant_of([difference_of(lot[index], first) for index in simplex[1:]]))
    return total


def are_partings(reading, paper):
    """Whether the paper is a pair of partings, or rows, for both lots of a reading."""
    return is_pair(paper) and is_parting(reading[0], paper[0]) and is_parting(reading[1], paper[1])


def parity_in(reading, paper):
    """The parity that such a pair tells."""
    return (volume_in(reading[0], paper[0]) + volume_in(reading[1], paper[1])) % 2


def takes_odd(claim, paper):
    """Whether the paper shows that the vols of both lots are odd together."""
    return are_partings(claim[1], paper) and parity_in(claim[1], paper) == 1


def takes_even(claim, paper):
    """Whether the paper shows that they are even together."""
    return are_partings(claim[1], paper) and parity_in(claim[1], paper) == 0


def takes_single(claim, paper):
    """Whether the paper is a network of one layer, with as few units as can be, for the reading."""
    return is_layer_or_places(claim[1], ("layer", paper))


def takes_several(claim, paper):
    """Whether the paper is a pair of places of one row with unlike bends."""
    return is_layer_or_places(claim[1], ("places", *paper) if is_pair(paper) else None)


def takes_whole(claim, paper):
    """Whether the paper has numbers that make the goal of the rows."""
    return is_whole_or_test(claim[1], claim[2], ("whole", paper))


def takes_broken(claim, paper):
    """Whether the paper is a form and a number that show that there are none."""
    return is_pair(paper) and is_whole_or_test(claim[1], claim[2], ("test", *paper))


CHECKS = {
    "corner": takes_corner, "within": takes_within, "alike": takes_alike, "unlike": takes_unlike, "full": takes_full,
    "flat": takes_flat, "agree": takes_agree, "differ": takes_differ, "straight": takes_straight, "bent": takes_bent,
    "odd": takes_odd, "even": takes_even, "single": takes_single, "several": takes_several, "whole": takes_whole,
    "broken": takes_broken}


def takes(claim, paper):
    """Whether the paper is one for the claim."""
    need_claim(claim)
    check = CHECKS[claim[0]]
    return check(claim, paper)


def answered(claim):
    """The claim or its opposite, whichever is true, and a paper for it."""
    need_claim(claim)
    word, paper = answer_to(claim)
    return (word, *claim[1:]), paper
