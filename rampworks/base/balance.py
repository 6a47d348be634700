"""EITHER a form that is above 0 at all columns, OR weights that balance them: by whole pivots, without fractions."""

from rampworks.base.linear import content_of, head_place, product_of

# The first form that is tried has members of at most this size, so that all others keep short.
GUESS = 63
# Forms are looked at with so many bits first.
MOST_BITS = 60


class Balance:
    """A table of pivots for weights of the columns, from 0 on and 1 in all, whose weighted sum is 0.

    `lines` has for each place the members of all columns there, turned by `turns` so that the sum of all columns is
    from 0 down. `used` tells for each row which column is in it, None for a made-up one. `rows`, divided by `bottom`,
    times a column with a 1 behind it tell how much of those in use it takes the place of. `price`, times a column
    with a 1 behind it, tells how much less of the made-up ones there is with it. What is in the row `held` is free:
    it takes numbers below 0, too.
    """

    def __init__(self, columns, length):
        lines = [list(line) for line in zip(*columns)]
        totals = [sum(line) for line in lines]
        self.turns = [-1 if total > 0 else 1 for total in totals]
        self.lines = [[turn * x for x in line] for turn, line in zip(self.turns, lines)]
        self.rows = [[1 if k == at else 0 for k in range(length + 1)] for at in range(length + 1)]
        self.used = [None] * (length + 1)
        self.price = sizes_like(totals) + [1]
        self.bottom = 1
        self.held = None

    def turned(self, row):
        """The row in the directions of the lines; twice turned it is the row again."""
        return [turn * x for turn, x in zip(self.turns, row)]

    def hold(self, free):
        """Takes the free column in, for good."""
        column = self.turned(free) + [0]
        at = head_place(column)
        if column[at] < 0:
            self.turns[at] = -self.turns[at]
            self.lines[at] = [-x for x in self.lines[at]]
            column[at] = -column[at]
        self.held = at
        self.pivot(at, column, product_of(self.price, column))

    def dearest(self, form):
        """The index of the column at which the form of the lines is greatest, None if it is below 0 at all."""
        totals = [0] * len(self.lines[0])
        for worth, line in zip(form, self.lines):
            if worth != 0:
                totals = [total + worth * x for total, x in zip(totals, line)]
        greatest = max(totals)
        return None if greatest < 0 else totals.index(greatest)

    def wanted(self):
        """The index of a column that makes less of the made-up ones, None if the price is below 0 at all columns."""
        form = self.price[:-1]
        short = shortened(form)
        if short != form:
            # Most often a short form like this one finds a column, too, or is already a good one, in less time.
            index = self.dearest(short)
            if index is None and self.held is None:
                self.price = short + self.price[-1:]
                return None
            if index is not None and product_of(form, [line[index] for line in self.lines]) >= 0:
                return index
        return self.dearest(form)

    def take(self, index):
        """Takes the column in, for the one of a row that limits it first."""
        column = [line[index] for line in self.lines] + [1]
        shares = [product_of(row, column) for row in self.rows]
        found = None
        for at, share in enumerate(shares):
            if share > 0 and at != self.held and (found is None or self.is_sooner(at, found, shares)):
                found = at
        self.pivot(found, shares, product_of(self.price, column))
        self.used[found] = index

    def is_sooner(self, at, other, shares):
        """Whether the row limits a column ahead of the other one: told so that no table comes twice."""
        places = [len(self.rows) - 1] + [k for k in range(len(self.rows) - 1) if k != self.held]
        for place in places:
            left, right = self.rows[at][place] * shares[other], self.rows[other][place] * shares[at]
            if left != right:
                return left < right
        return False

    def pivot(self, at, shares, worth):
        """Puts a column, told by its shares of the rows and its worth by the price, into a row."""
        head, lead, last = self.rows[at], shares[at], self.bottom
        self.rows = [
            row if k == at else [(lead * x - share * y) // last for x, y in zip(row, head)]
            for k, (row, share) in enumerate(zip(self.rows, shares))]
        self.price = [(lead * x - worth * y) // last for x, y in zip(self.price, head)]
        self.bottom = lead

    def is_balanced(self):
        """Whether the columns in use balance without made-up ones."""
        return self.price[-1] == 0

    def form(self):
        """The form of the price, in lowest terms."""
        found = self.turned([-x for x in self.price[:-1]])
        size = max(1, content_of(found))
        return tuple([x // size for x in found])

    def weights(self, many):
        """The weights of so many columns, and the number of the free one, in lowest terms."""
        found, share = [0] * many, 0
        for at, index in enumerate(self.used):
            if at == self.held:
                share = self.rows[at][-1]
            elif index is not None:
                found[index] = self.rows[at][-1]
        size = content_of(found + [share])
        return [x // size for x in found], share // size


def shortened(form):
    """The form without the last bits that all members have too many."""
    many = max([x.bit_length() for x in form]) - MOST_BITS
    return form if many <= 0 else [x >> many for x in form]


def sizes_like(totals):
    """Sizes from 1 on, short ones, that are to one another about as those of the totals."""
    greatest = max(GUESS, max([abs(total) for total in totals]))
    return [max(1, abs(total) * GUESS // greatest) for total in totals]


def form_or_weights(columns, free, length):
    """EITHER ("form", form), above 0 at all columns and 0 at the free one, if there is one (else None);
    OR ("weights", weights, share): from 0 on, not all 0, with share times the free one their sum is 0."""
    if not columns:
        return "form", (0,) * length
    table = Balance(columns, length)
    if free is not None:
        table.hold(free)
    while not table.is_balanced():
        index = table.wanted()
        if index is None:
            return "form", table.form()
        table.take(index)
    weights, share = table.weights(len(columns))
    return "weights", weights, share
