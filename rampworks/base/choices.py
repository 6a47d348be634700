"""Ways to take some of many, and what lies across up to three rows."""


def lots_of_indices(many, size):
    """The ascending tuples of so many indices below a number."""
    found = [()]
    for _ in range(size):
        found = [(*lot, k) for lot in found for k in range(lot[-1] + 1 if lot else 0, many)]
    return found


def across(rows):
    """A row of one member more than there are rows, with the product 0 with each; zeros if they are not independent."""
    many = len(rows) + 1
    if many == 1:
        return (1,)
    if many == 2:
        a, b = rows[0]
        return b, -a
    if many == 3:
        (a, b, c), (d, e, f) = rows
        return b * f - c * e, c * d - a * f, a * e - b * d
    (a, b, c, d), (e, f, g, h), (x, y, z, w) = rows
    # The six determinants of two columns of the last two rows.
    ef, eg, eh = e * y - f * x, e * z - g * x, e * w - h * x
    fg, fh, gh = f * z - g * y, f * w - h * y, g * w - h * z
    return (b * gh - c * fh + d * fg, -a * gh + c * eh - d * eg, a * fh - b * eh + d * ef, -a * fg + b * eg - c * ef)
