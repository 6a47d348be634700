"""Which points are corners, and which pairs make corners of a sum: by one table of whole numbers for all of them."""

# So often the column that promises most comes in; behind that, one so that no table comes twice.
MOST_GREEDY = 12
# The number of what is no point of a lot, but the direction of a stick.
STICK = -1


class Sheet:
    """Points, each as a sum of those in use; they are numbered from 0 on, lot behind lot.

    `used` tells for each row which point it is for, `others` for each column. A column, divided by `bottom`, which is
    above 0, tells how many times the points in use are in its point; those of its own lot make 1 together, others 0.
    If there is a stick, the row 0 is for it, and stays. Behind the columns of the points can stand one for each
    direction, so that what is told by a row is known as a form.
    """

    def __init__(self, lots, stick, wants_forms):
        self.form = None
        self.used = []
        self.others = []
        self.bottom = 1
        self.held = 0 if stick is not None else None
        begin, ranges = 0, []
        for lot in lots:
            self.others.extend(list(range(begin + 1, begin + len(lot))))
            ranges.append((begin, begin + len(lot)))
            begin += len(lot)
        self.rows = lines_of(lots, stick, wants_forms)
        if stick is not None:
            self.others.insert(0, STICK)
        self.reduce()
        heads = len(self.rows)
        for first, end in ranges:
            self.put_first(first, end, heads)

    def reduce(self):
        """Brings as many points into use as there are independent directions."""
        rows, at = self.rows, 0
        while at < len(rows):
            column = head_of(rows[at], len(self.others))
            if column is None:
                del rows[at]
                continue
            rows, self.bottom = exchanged(rows, at, column, self.bottom)
            rows = [row[:column] + row[column + 1:] for row in rows]
            self.used.append(self.others.pop(column))
            at += 1
        self.rows = rows

    def put_first(self, begin, end, heads):
        """Puts the row for the first point of a lot behind the others."""
        own = [self.rows[at] for at in range(heads) if begin <= self.used[at] < end]
        row = [-sum(column) for column in zip(*own)] if own else [0] * len(self.rows[0])
        for at, label in enumerate(self.others):
            if begin <= label < end:
                row[at] += self.bottom
        self.rows.append(row)
        self.used.append(begin)

    def exchange(self, at, column):
        """Exchanges the point of a row and that of a column in which its number is not 0."""
        self.rows, self.bottom = exchanged(self.rows, at, column, self.bottom)
        self.used[at], self.others[column] = self.others[column], self.used[at]

    def leave(self, label):
        """Leaves a point that is no corner, and not in use, out for good."""
        column = self.others.index(label)
        del self.others[column]
        self.rows = [row[:column] + row[column + 1:] for row in self.rows]

    def is_corner(self, label):
        """Whether the point is a corner, also seen along the stick; if not, it is not in use."""
        many = len(self.others)
        if label in self.used:
            at = self.used.index(label)
            row = self.rows[at]
            greatest = max(row[:many]) if many > 0 else 0
            if greatest < self.bottom:
                self.form = row[many:]
                return True
            self.exchange(at, row.index(greatest))
        place = self.others.index(label)
        while True:
            below = [(self.used[at], at) for at, row in enumerate(self.rows) if row[place] < 0 and at != self.held]
            if not below:
                return False
            _, at = min(below)
            row = self.rows[at]
            found = [(self.others[k], k) for k in range(many) if row[k] <= row[place]]
            if len(found) == 1:
                self.form = [-x for x in row[many:]]
                return True
            _, column = min([(self.others[k], k) for k in range(many) if row[k] < 0 and k != place])
            self.exchange(at, column)

    def side(self, label):
        """On which end of the stick a point lies that is none of the corners along it: above 0, or below."""
        return self.rows[0][self.others.index(label)]

    def take(self, label, kept):
        """Brings the point into use, in the place of one other than the kept one."""
        if label in self.used:
            return
        column = self.others.index(label)
        for at, row in enumerate(self.rows):
            if row[column] > 0 and self.used[at] != kept:
                self.exchange(at, column)
                return

    def is_pair(self, one, other):
        """Whether two points in use, of both lots, make a corner of the sum."""
        many, steps = len(self.others), 0
        price = [x + y for x, y in zip(self.rows[self.used.index(one)], self.rows[self.used.index(other)])]
        while True:
            points = price[:many]
            greatest = max(points) if many > 0 else 0
            if greatest < self.bottom:
                self.form = price[many:]
                return True
            column = points.index(greatest)
            steps += 1
            if steps > MOST_GREEDY:
                _, column = min([(self.others[k], k) for k in range(many) if points[k] > 0])
            found = [(label, at) for at, label in enumerate(self.used)
                     if self.rows[at][column] > 0 and label != one and label != other]
            if not found:
                return False
            _, at = min(found)
            if steps <= MOST_GREEDY:
                at, is_enough = self.best_row(price, column, [at for _, at in found])
                if is_enough:
                    return True
            self.rows.append(price)
            self.exchange(at, column)
            price = self.rows.pop()

    def best_row(self, price, column, places):
        """Of some rows the one that makes the greatest price the least one; and whether this is enough."""
        many, own = len(self.others), price[column]
        points, least, found = price[:many], None, None
        for at in places:
            row = self.rows[at]
            lead = row[column]
            worst = max([lead * x - own * y for x, y in zip(points, row)])
            if worst < self.bottom * lead:
                self.form = [lead * x - own * y for x, y in zip(price[many:], row[many:])]
                return at, True
            if least is None or worst * least[1] < least[0] * lead:
                least, found = (worst, lead), at
        return found, False


def lines_of(lots, stick, wants_forms):
    """For each place the members there of all points but the first of each lot, each less that of this one."""
    length = len(lots[0][0])
    lines = []
    for at in range(length):
        line = [] if stick is None else [stick[at]]
        for lot in lots:
            first = lot[0][at]
            line.extend([point[at] - first for point in lot[1:]])
        if wants_forms:
            line.extend([1 if k == at else 0 for k in range(length)])
        lines.append(line)
    if stick is not None:
        # The row in which the stick comes into use is the first one.
        place = head_of(stick, length)
        lines[0], lines[place] = lines[place], lines[0]
    return lines


def head_of(row, many):
    """The place of the first member other than 0, of so many, None for zeros."""
    for at in range(many):
        if row[at] != 0:
            return at
    return None


def exchanged(rows, at, column, bottom):
    """The table with the point of a column in use in a row, that of the row behind in the column; and its bottom."""
    head, sign = rows[at], 1
    lead = head[column]
    if lead < 0:
        head, lead, sign = [-x for x in head], -lead, -1
    found = []
    for k, row in enumerate(rows):
        own = row[column]
        if own != 0:
            row = [(lead * x - own * y) // bottom for x, y in zip(row, head)] if k != at else head[:]
            row[column] = -sign * own if k != at else sign * bottom
        elif lead != bottom:
            row = [lead * x // bottom for x in row]
        found.append(row)
    return found, lead
