"""EITHER a form that is greater at points than at others, OR weights that balance them: by whole pivots."""

from rampworks.base.linear import content_of, difference_of, head_place, product_of, tells

# The first form that is tried has members of at most this size, so that all others keep short.
GUESS = 65535
# Forms are looked at with so many bits first: products of such ones are fast.
MOST_BITS = 20
# The number of what is no group, but all walls.
WALLS = -1


class Balance:
    """A table of pivots for weights of columns, from 0 on and 1 in all, whose weighted sum is 0.

    A column is a point less another one: `groups` are pairs of a point and the others. Besides there is a column for
    each of the `walls`, whose number does not count for the 1 in all. The first rows are units, each with the sign of
    `signs`. `used` tells for each row which column is in it, None for a made-up one. `rows`, divided by `bottom`,
    times a column with a 1 behind it (a 0 for a wall) tell how much of those in use it takes the place of. `price`,
    times the same, tells how much less of the made-up ones there is with it. What is in the row `held` is free: it
    takes numbers below 0, too. `tops` keeps which points of the first group were met as the only greatest ones of
    all, with the opposites of the forms for which they are so.
    """

    def __init__(self, groups, walls, guess):
        length = len(guess)
        self.groups = groups
        self.walls = walls
        self.signs = [-1 if x > 0 else 1 for x in guess] + [1]
        self.rows = [[self.signs[at] if k == at else 0 for k in range(length + 1)] for at in range(length + 1)]
        self.used = [None] * (length + 1)
        self.price = [sign * size for sign, size in zip(self.signs, sizes_like(guess))] + [1]
        self.bottom = 1
        self.held = None
        self.tops = []

    def hold(self, free):
        """Takes the free column in, for good."""
        at = head_place(free)
        if free[at] * self.signs[at] < 0:
            self.signs[at] = -self.signs[at]
            self.rows[at] = [-x for x in self.rows[at]]
            self.price[at] = -self.price[at]
        column = [*free, 0]
        self.held = at
        self.pivot(at, [product_of(row, column) for row in self.rows], product_of(self.price, column))

    def dearest(self, form):
        """The column at which the form is greatest, as a pair of a group and an index.

        None if it is below 0 at all columns of groups, and at most 0 at all walls.
        """
        found, greatest = None, -1
        for at, (point, others) in enumerate(self.groups):
            if others:
                told = tells(form, others)
                least = min(told)
                worth = product_of(form, point) - least
                if worth > greatest:
                    found, greatest = (at, told.index(least)), worth
                if at == 0 and worth > 0 and told.count(least) == 1:
                    self.tops.append((others[told.index(least)], form))
        for index, wall in enumerate(self.walls):
            worth = product_of(form, wall)
            if worth > max(0, greatest):
                found, greatest = (WALLS, index), worth
        return found

    def column_of(self, place):
        """The column of a group at an index, with a 1 behind it, or of a wall, with a 0."""
        if place[0] == WALLS:
            return [*self.walls[place[1]], 0]
        point, others = self.groups[place[0]]
        return [*difference_of(point, others[place[1]]), 1]

    def sought(self):
        """The column that makes less of the made-up ones, None if the price is below 0 at all columns."""
        form = self.price[:-1]
        short = shortened(form)
        if short != form:
            # Most often a short form like this one finds a column, too, or is already a good one, in less time.
            place = self.dearest(short)
            if place is None and self.held is None:
                self.price = short + self.price[-1:]
                return None
            least = 1 if place is not None and place[0] == WALLS else 0
            if place is not None and product_of(form, self.column_of(place)) >= least:
                return place
        return self.dearest(form)

    def take(self, place):
        """Takes the column in, for the one of a row that limits it first."""
        column = self.column_of(place)
        shares = tells(column, self.rows)
        found = None
        for at, share in enumerate(shares):
            if share > 0 and at != self.held and (found is None or self.is_sooner(at, found, shares)):
                found = at
        self.pivot(found, shares, product_of(self.price, column))
        self.used[found] = place

    def is_sooner(self, at, other, shares):
        """Whether the row limits a column ahead of the other one: told so that no table comes twice."""
        own, beside, share, rival = self.rows[at], self.rows[other], shares[at], shares[other]
        left, right = own[-1] * rival, beside[-1] * share
        if left != right:
            return left < right
        for place, sign in enumerate(self.signs):
            if place != self.held:
                left, right = own[place] * rival, beside[place] * share
                if left != right:
                    return left < right if sign > 0 else left > right
        return False

    def pivot(self, at, shares, worth):
        """Puts a column, told by its shares of the rows and its worth by the price, into a row."""
        head, lead, last = self.rows[at], shares[at], self.bottom
        found = []
        for k, row in enumerate(self.rows):
            share = shares[k]
            found.append(row if k == at else [(lead * x - share * y) // last for x, y in zip(row, head)])
        self.rows = found
        self.price = [(lead * x - worth * y) // last for x, y in zip(self.price, head)]
        self.bottom = lead

    def told_form(self):
        """The form of the price, in lowest terms."""
        found = [-x for x in self.price[:-1]]
        size = max(1, content_of(found))
        return tuple([x // size for x in found])

    def weights(self):
        """The weights of all columns, group behind group, those of the walls, and the number of the free one.

        They are in lowest terms, all together.
        """
        begins, many = {}, 0
        for at, (_, others) in enumerate(self.groups):
            begins[at] = many
            many += len(others)
        begins[WALLS] = many
        found, share = [0] * (many + len(self.walls)), 0
        for at, place in enumerate(self.used):
            if at == self.held:
                share = self.rows[at][-1]
            elif place is not None:
                found[begins[place[0]] + place[1]] = self.rows[at][-1]
        size = content_of(found + [share])
        found = [x // size for x in found]
        return found[:many], found[many:], share // size


def totals_of(groups):
    """The sum of all columns."""
    found = [0] * len(groups[0][0])
    for point, others in groups:
        many = len(others)
        for at, line in enumerate(zip(*others)):
            found[at] += many * point[at] - sum(line)
    return found


def shortened(form):
    """The form without the last bits that all members have too many."""
    many = max([x.bit_length() for x in form]) - MOST_BITS
    return form if many <= 0 else [x >> many for x in form]


def sizes_like(guess):
    """Sizes from 1 on, short ones, that are to one another about as those of the members."""
    greatest = max(GUESS, max([abs(x) for x in guess]))
    return [max(1, abs(x) * GUESS // greatest) for x in guess]


def settled(groups, walls, free, guess):
    """The table of the groups and walls, with a free row, if there is one (else None), when it is at its end.

    The guess, if there is one (else None), is a form that is tried first.
    """
    table = Balance(groups, walls, totals_of(groups) if guess is None else guess)
    if free is not None:
        table.hold(free)
    while table.price[-1] != 0:
        place = table.sought()
        if place is None:
            break
        table.take(place)
    return table


def form_or_weights(groups, free):
    """EITHER ("form", form), greater at the point of each group than at its others and 0 at the free row, if there is
    one (else None); OR ("weights", weights, share): from 0 on, not all 0, for all others, group behind group: the sum
    of the points less the others by weights, and of share times the free row, is 0."""
    if not any([others for _, others in groups]):
        return "form", (0,) * len(groups[0][0])
    table = settled(groups, (), free, None)
    if table.price[-1] != 0:
        return "form", table.told_form()
    weights, _, share = table.weights()
    return "weights", weights, share


def form_in_cone(groups, walls):
    """EITHER ("form", form), greater at the point of each group than at its others, and at least 0 at all walls;
    OR ("weights", weights, numbers): the sum of the points less the others by weights, from 0 on, not all 0, and of
    the walls, each times its number, from 0 on, is 0."""
    table = settled(groups, walls, None, None)
    if table.price[-1] != 0:
        return "form", table.told_form()
    weights, numbers, _ = table.weights()
    return "weights", weights, numbers
