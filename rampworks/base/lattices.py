"""Lattices of whole sums of rows. A table of a lattice is a dict: the place of a head -> its row of the basis."""

from math import gcd

from rampworks.base.linear import product_of


def bezout(one, other):
    """The triple (g, s, t), g above 0 being the greatest number that divides both, and s one + t other."""
    g, s, t = one, 1, 0
    rest, down, across = other, 0, 1
    while rest != 0:
        many = g // rest
        g, rest = rest, g - many * rest
        s, down = down, s - many * down
        t, across = across, t - many * across
    return (g, s, t) if g > 0 else (-g, -s, -t)


def reduced(table, at, row):
    """The row, with members from 0 to the head less 1 at the places of heads behind `at`."""
    for place in sorted(table):
        if place > at:
            many = row[place] // table[place][place]
            if many != 0:
                row = [x - many * y for x, y in zip(row, table[place])]
    return row


def met(table, at, row):
    """What is left of the row where its place `at` has met the head there, which can become a lesser one."""
    head = table[at]
    many, rest = divmod(row[at], head[at])
    if rest == 0:
        return [x - many * y for x, y in zip(row, head)]
    g, s, t = bezout(head[at], row[at])
    left, right = head[at] // g, row[at] // g
    table[at] = reduced(table, at, [s * x + t * y for x, y in zip(head, row)])
    # Without this the members would grow with each head that is met.
    return reduced(table, at, [left * y - right * x for x, y in zip(head, row)])


def put_in(table, row):
    """Makes the table that of the lattice with this row, too."""
    changed = False
    for at in range(len(row)):
        if row[at] == 0:
            continue
        changed = changed or at not in table or row[at] % table[at][at] != 0
        if at not in table:
            table[at] = list(row) if row[at] > 0 else [-x for x in row]
            break
        row = met(table, at, row)
    if changed:
        for at in sorted(table, reverse=True):
            table[at] = reduced(table, at, table[at])


def table_of(rows):
    """The table of the lattice of the rows."""
    table = {}
    for row in rows:
        put_in(table, row)
    return table


def basis_of(table):
    """The rows of a table, in their sequence."""
    return tuple([tuple(table[at]) for at in sorted(table)])


def remainder(table, row):
    """The row less what the lattice takes of it, head by head; zeros exactly if it is in the lattice."""
    return reduced(table, -1, row)


def kernel_of(rows, length):
    """The basis of the rows of the length that are 0 at all of these rows as forms."""
    many = len(rows)
    lines = [[row[at] for row in rows] + [1 if k == at else 0 for k in range(length)] for at in range(length)]
    table = table_of(lines)
    return tuple([tuple(table[at][many:]) for at in sorted(table) if at >= many])


def one_more(table, row, length):
    """The table of the lattice with one row more: each row has behind its members how many times this one is in it.

    At the place behind the members stands the least multiple of the row that was in the lattice before.
    """
    lines = [list(table[at]) + [0] for at in sorted(table)]
    return table_of(lines + [list(row) + [1]])


def is_in(table, row):
    """Whether the row is in the lattice."""
    return all([x == 0 for x in remainder(table, row)])


def chain_of(rows, chosen, length):
    """The pair (links, table) for all rows: pairs (index, table) of those that add something to the chosen ones.

    The table of a link tells how many times its row is in each of the rows; the last table is that of the lattice.
    """
    table = table_of([rows[index] for index in chosen])
    links = []
    for index, row in enumerate(rows):
        if not is_in(table, row):
            grown = one_more(table, row, length)
            links.append((index, grown))
            table = {at: grown[at][:length] for at in grown if at < length}
    return links, table


def shares(links, rows, goal):
    """How many times each row that was put in later is in the goal, and what is left for the chosen rows."""
    numbers, left = {}, list(goal)
    for index, grown in reversed(links):
        many = -reduced(grown, -1, left + [0])[-1]
        numbers[index] = many
        left = [x - many * y for x, y in zip(left, rows[index])]
    return numbers, left


def test_of(table, goal):
    """A pair (form, m): the form tells multiples of m for all rows of the lattice, and for the goal none.

    The goal is a sum of fractions of the rows of the table, but not in the lattice.
    """
    places, left = sorted(table), list(goal)
    at = 0
    while left[places[at]] % table[places[at]][places[at]] == 0:
        many = left[places[at]] // table[places[at]][places[at]]
        left = [x - many * y for x, y in zip(left, table[places[at]])]
        at += 1
    form, m = [0] * len(goal), table[places[at]][places[at]]
    form[places[at]] = 1
    for place in reversed(places[:at]):
        told, head = product_of(form, table[place]), table[place][place]
        both = gcd(told, head)
        form, m = [head // both * x for x in form], head // both * m
        form[place] = -told // both
    return tuple(form), m


def is_multiple(form, row, m):
    """Whether the form tells a multiple of m for the row; of 0 just 0."""
    told = sum([x * y for x, y in zip(form, row)])
    return told == 0 if m == 0 else told % m == 0
