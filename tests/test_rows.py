"""Stage 1: rows."""

from itertools import product

from tests.helpers import ODD_VALUES, SIXTY, Case, changed, det, dot, longest, mix, plus, random_row, scale, span

from rampworks.base import rows as told
from rampworks.base.rows import (
    are_rows, basis, content, determinant, is_parts_or_form, is_row, is_whole_or_test, kernel, less, multiple,
    parts_or_form, primitive, rank, whole_or_test)
from rampworks.errors import InvalidNumber, InvalidOperation, InvalidRow, Refused

BAD_ROWS = (
    (), [1], [1, 2], None, True, 5, "row", {1: 2}, (True,), (1, False), (1, None), ("1",), ((1,),), (1, [2]),
    (SIXTY + 1,), (-SIXTY - 1,), (1, 10 ** 99), (0,) * 17)
BAD_ROW_TUPLES = (
    (), [(1,)], None, 5, (1, 2), ((),), ([1],), ((1,), (1, 2)), ((True,),), ((1,), None), ((SIXTY + 1,),),
    ((0,) * 17,), ((1,),) * 401, ((1, 2), "12"))


def reduces(rows):
    """Whether the rows are a basis of the form of [1.4]."""
    heads = []
    for row in rows:
        at = next(k for k, x in enumerate(row) if x != 0)
        if row[at] < 0 or heads and at <= heads[-1]:
            return False
        heads.append(at)
    return all(0 <= rows[above][at] < rows[below][at] for below, at in enumerate(heads) for above in range(below))


def in_lattice(rows, row):
    """Whether the row is in the lattice of a basis of the form of [1.4]."""
    for line in rows:
        at = next(k for k, x in enumerate(line) if x != 0)
        row = plus(row, scale(line, -(row[at] // line[at])))
    return not any(row)


class Kinds(Case):

    def test_rows(self):
        for row in ((0,), (-5,), (1,) * 16, (SIXTY,), (-SIXTY, SIXTY), (0,) * 3):
            self.told(True, is_row(row))
        for row in BAD_ROWS + ODD_VALUES:
            if row not in ((1, 2),):
                self.told(False, is_row(row))

    def test_tuples_of_rows(self):
        for rows in (((0,),), ((1, 2), (1, 2)), ((1,),) * 400, ((SIXTY,) * 16,) * 400, ((1,) * 16,), ((-SIXTY,),)):
            self.told(True, are_rows(rows))
        for rows in BAD_ROW_TUPLES:
            self.told(False, are_rows(rows))
        self.assertEqual([x for x in ODD_VALUES if are_rows(x)], [((2,), (1,)), ((1,), (1,))])

    def test_constants(self):
        self.told(16, told.MOST_LENGTH)
        self.told(400, told.MOST_ROWS)


class Reckoning(Case):

    def test_sums_and_products(self):
        for length in (1, 2, 3, 8, 16):
            for size in (1, 9, SIXTY):
                one, other = random_row(self.source, length, size), random_row(self.source, length, size)
                self.told(plus(one, other), told.plus(one, other))
                self.told(plus(one, scale(other, -1)), less(one, other))
                self.told(dot(one, other), told.dot(one, other))
                for number in (0, 1, -1, 7, SIXTY, -SIXTY):
                    self.told(scale(one, number), multiple(one, number))

    def test_contents(self):
        self.told(0, content((0, 0, 0)))
        self.told(6, content((-12, 18, 0)))
        self.told(1, content((6, 10, 15)))
        self.told(SIXTY, content((0, -SIXTY)))
        for _ in range(50):
            row, number = random_row(self.source, 5, 20), self.source.randint(1, 10 ** 30)
            size = content(row)
            self.told(size * number, content(scale(row, number)))
            if any(row):
                found = primitive(row)
                self.told(1, content(found))
                head = next(x for x in row if x != 0)
                self.told(row, scale(found, size if head > 0 else -size))
                self.assertGreater(next(x for x in found if x != 0), 0)

    def test_primitive_edges(self):
        self.told((1,), primitive((-SIXTY,)))
        self.told((0, 0, 1), primitive((0, 0, -7)))
        self.told((1, -1), primitive((-3, 3)))
        self.fails(Refused, primitive, (0,) * 16, reason=("zero",))


class Lattices(Case):

    def test_basis_by_its_form(self):
        for _ in range(120):
            length, many = self.source.randint(1, 5), self.source.randint(1, 7)
            rows = tuple(random_row(self.source, length, self.source.choice((1, 6, 10 ** 9))) for _ in range(many))
            found = basis(rows)
            self.assertTrue(reduces(found), found)
            self.assertTrue(all(in_lattice(found, row) for row in rows))
            self.told(span(rows), len(found))
            self.told(span(rows), rank(rows))
            for row in found:
                self.told("whole", whole_or_test(rows, row)[0])

    def test_basis_row_by_row(self):
        # Rows come one by one, so that heads become less and rows ahead have to be made less again.
        for _ in range(300):
            length = self.source.randint(1, 4)
            rows = tuple(scale(random_row(self.source, length, 4), self.source.randint(1, 6)) for _ in range(6))
            for many in range(1, 7):
                found = basis(rows[:many])
                self.assertTrue(reduces(found), found)
                self.assertTrue(all(in_lattice(found, row) for row in rows[:many]))

    def test_one_basis_for_one_lattice(self):
        for _ in range(40):
            rows = [random_row(self.source, 4, 9) for _ in range(4)]
            found = basis(tuple(rows))
            for _ in range(12):
                one, other = self.source.sample(range(4), 2)
                rows[one] = plus(rows[one], scale(rows[other], self.source.randint(-3, 3)))
            self.source.shuffle(rows)
            self.told(found, basis(tuple(rows)))

    def test_unlike_lattices(self):
        self.assertNotEqual(basis(((2, 0), (0, 1))), basis(((1, 0), (0, 2))))
        self.told(((1, 1), (0, 2)), basis(((1, 1), (1, -1))))
        self.told(((2, 1), (0, 2)), basis(((2, 1), (4, 4))))
        self.told((), basis(((0, 0, 0), (0, 0, 0))))
        self.told(((0, 3),), basis(((0, -3), (0, 6), (0, 0))))

    def test_kernel(self):
        for _ in range(80):
            length, many = self.source.randint(1, 6), self.source.randint(1, 6)
            rows = tuple(random_row(self.source, length, self.source.choice((1, 3, 50))) for _ in range(many))
            found = kernel(rows)
            self.assertTrue(not found or reduces(found), found)
            self.assertTrue(all(dot(row, line) == 0 for row in rows for line in found))
            self.told(length - rank(rows), len(found))
            if found:
                # All whole rows that are 0 at the rows are in it, so nothing divides a row of it out.
                self.told(found, kernel(kernel(found)) if len(found) < length else found)

    def test_kernel_has_all_small_rows(self):
        for rows in (((2, 4, 6),), ((1, 2, 3), (3, 2, 1)), ((0, 0, 5),), ((4, 6, 9),), ((1, 1, 1), (2, 2, 2))):
            found = kernel(rows)
            for row in product(range(-6, 7), repeat=3):
                self.told(all(dot(row, line) == 0 for line in rows), in_lattice(found, row))

    def test_kernel_of_all(self):
        self.told((), kernel(((1, 0), (5, 3))))
        self.told(((1, 0, 0), (0, 1, 0), (0, 0, 1)), kernel(((0, 0, 0),)))

    def test_determinants(self):
        for length in range(1, 8):
            for size in (1, 9, 10 ** 40):
                rows = tuple(random_row(self.source, length, size) for _ in range(length))
                self.told(det(rows), determinant(rows))
                found, heads = basis(rows), 1
                for at, row in enumerate(found):
                    heads *= row[at]
                self.told(heads if len(found) == length else 0, abs(determinant(rows)))

    def test_determinant_laws(self):
        rows = ((2, 1, 0), (0, 0, 3), (1, 5, 7))
        size = determinant(rows)
        self.told(-27, size)
        self.told(-size, determinant((rows[1], rows[0], rows[2])))
        self.told(-size, determinant((rows[2], rows[1], rows[0])))
        self.told(size, determinant((rows[2], rows[0], rows[1])))
        self.told(size, determinant((rows[0], plus(rows[1], scale(rows[0], 9)), rows[2])))
        self.told(-4 * size, determinant((rows[0], rows[1], scale(rows[2], -4))))
        self.told(0, determinant((rows[0], rows[0], rows[2])))
        self.told(-SIXTY, determinant(((-SIXTY,),)))

    def test_what_is_not_true(self):
        self.told(2, content(plus((1, 1), (1, -1))))
        self.told("test", whole_or_test(((1, 1), (1, -1)), (1, 0))[0])
        self.told("parts", parts_or_form(((1, 1), (1, -1)), (1, 0))[0])


class Parts(Case):

    def rows_and_goal(self):
        length, many = self.source.randint(1, 5), self.source.randint(1, 6)
        size = self.source.choice((1, 4, 30, 10 ** 20))
        rows = tuple(random_row(self.source, length, size) for _ in range(many))
        if self.source.random() < 0.5:
            return rows, mix(random_row(self.source, many, 4), rows)
        return rows, random_row(self.source, length, size)

    def test_right_by_sums(self):
        found = {"parts": 0, "form": 0}
        for _ in range(300):
            rows, goal = self.rows_and_goal()
            paper = parts_or_form(rows, goal)
            found[paper[0]] += 1
            self.told(True, is_parts_or_form(rows, goal, paper))
            if paper[0] == "parts":
                _, numbers, bottom = paper
                self.assertGreaterEqual(bottom, 1)
                self.told(scale(goal, bottom), mix(numbers, rows))
            else:
                self.told([0] * len(rows), [dot(paper[1], row) for row in rows])
                self.assertNotEqual(dot(paper[1], goal), 0)
            self.told(span(rows) == span(rows + (goal,)), paper[0] == "parts")
        self.assertGreater(min(found.values()), 30)

    def test_whole_right_by_sums(self):
        found = {"whole": 0, "test": 0}
        for _ in range(300):
            rows, goal = self.rows_and_goal()
            paper = whole_or_test(rows, goal)
            found[paper[0]] += 1
            self.told(True, is_whole_or_test(rows, goal, paper))
            if paper[0] == "whole":
                self.told(goal, mix(paper[1], rows))
            else:
                _, form, m = paper
                rests = [dot(form, row) if m == 0 else dot(form, row) % m for row in rows]
                self.told([0] * len(rows), rests)
                self.assertNotEqual(dot(form, goal) if m == 0 else dot(form, goal) % m, 0)
                self.assertTrue(m == 0 or m >= 2)
            self.told(in_lattice(basis(rows), goal), paper[0] == "whole")
        self.assertGreater(min(found.values()), 30)

    def test_judge_of_parts(self):
        rows, goal = ((2, 0, 0), (0, 3, 0)), (1, 1, 0)
        long = 10 ** 80
        for paper in (("parts", (3, 2), 6), ("parts", (30, 20), 60), ("parts", (3 * long, 2 * long), 6 * long)):
            self.judges(lambda value: is_parts_or_form(rows, goal, value), paper)
            self.refuses_all(lambda value: is_parts_or_form(rows, goal, value), changed(paper))
        for paper in (("parts", (-3, -2), -6), ("parts", (0, 0), 0), ("form", (0, 0, 1)), ("parts", (3, 2))):
            self.told(False, is_parts_or_form(rows, goal, paper))

    def test_judge_takes_other_parts(self):
        rows, goal = ((1, 2), (2, 4), (0, 0)), (3, 6)
        for numbers, bottom in (((3, 0, 0), 1), ((1, 1, 0), 1), ((-1, 2, 77), 1), ((0, 3, 5), 2)):
            paper = ("parts", numbers, bottom)
            self.judges(lambda value: is_parts_or_form(rows, goal, value), paper)

    def test_judge_of_forms(self):
        rows, goal = ((1, 2, 0), (2, 4, 0)), (1, 3, 5)
        for form in ((-2, 1, 0), (2, -1, 0), (0, 0, 1), (-2 * 10 ** 70, 10 ** 70, 3), (0, 0, -10 ** 99)):
            self.judges(lambda value: is_parts_or_form(rows, goal, value), ("form", form))
        for form in ((1, 0, 0), (-10, 5, -1), (0, 0, 0), (-2, 2, 0), (10, -5, 1)):
            self.told(False, is_parts_or_form(rows, goal, ("form", form)))
        self.refuses_all(lambda value: is_parts_or_form(((1, 2),), (1, 3), value), changed(("form", (-2, 1))))

    def test_judge_of_whole_parts(self):
        rows, goal = ((2, 1), (4, 5), (2, 1)), (2, 4)
        for numbers in ((-1, 1, 0), (0, 1, -1), (10 ** 70, 1, -1 - 10 ** 70)):
            self.judges(lambda value: is_whole_or_test(rows, goal, value), ("whole", numbers))
            self.refuses_all(lambda value: is_whole_or_test(rows, goal, value), changed(("whole", numbers)))

    def test_judge_of_tests(self):
        rows, goal = ((2, 0), (0, 3)), (4, 2)
        for form, m in (((0, 1), 3), ((0, 2), 6), ((0, -1), 3), ((3, 1), 3), ((0, 10 ** 70), 3 * 10 ** 70)):
            self.judges(lambda value: is_whole_or_test(rows, goal, value), ("test", form, m))
        for form, m in (((0, 1), -3), ((0, 1), 2), ((0, 1), 0), ((0, 1), 1), ((1, 0), 2), ((0, 3), 3), ((0, 1), 9)):
            self.told(False, is_whole_or_test(rows, goal, ("test", form, m)))
        for form in ((-2, 1), (2, -1), (-4, 2)):
            self.judges(lambda value: is_whole_or_test(((1, 2),), (1, 3), value), ("test", form, 0))
        self.told(True, is_whole_or_test(((1, 2),), (1, 3), ("test", (-2, 1), 2)))
        self.told(False, is_whole_or_test(((1, 2),), (1, 3), ("test", (-2, 1), 1)))

    def test_goal_zero(self):
        for rows in (((0, 0),), ((1, 2), (3, 4))):
            self.told("parts", parts_or_form(rows, (0, 0))[0])
            self.told("whole", whole_or_test(rows, (0, 0))[0])

    def test_all_small_goals(self):
        for rows in (
                ((2, 1, 0), (0, 3, 1), (0, 0, 5)), ((4, 2, 1), (0, 6, 3), (0, 0, 2)), ((6, 4, 2), (0, 4, 2), (0, 0, 4)),
                ((2, 0, 1), (0, 0, 3)), ((4, 6, 2), (6, 4, 2), (2, 2, 2)),
                ((6, 3, 3), (4, 4, 0), (3, 1, 5), (2, 8, 6))):
            lattice = basis(rows)
            self.assertTrue(reduces(lattice))
            for goal in product(range(-4, 5), repeat=3):
                paper = whole_or_test(rows, goal)
                self.told(in_lattice(lattice, goal), paper[0] == "whole")
                if paper[0] == "whole":
                    self.told(goal, mix(paper[1], rows))
                else:
                    _, form, m = paper
                    self.told([0] * len(rows), [dot(form, row) % m if m else dot(form, row) for row in rows])
                    self.assertNotEqual(0, dot(form, goal) % m if m else dot(form, goal))

    def test_long_chains_of_lattices(self):
        # Each row brings a lattice of half the size, so that all of them are needed.
        rows = tuple((2 ** (40 - k), 3 ** min(k, 25) * 2 ** (40 - k) + k) for k in range(40))
        for goal in ((1, 0), (0, 1), (2, 39), (5, -7)):
            paper = whole_or_test(rows, goal)
            self.told(True, is_whole_or_test(rows, goal, paper))
            self.told(in_lattice(basis(rows), goal), paper[0] == "whole")
        rows = tuple(scale((6, 10, 15), 2 ** k * 3 ** (30 - k)) for k in range(31))
        for goal in ((6, 10, 15), (12, 20, 31), (6 * 2 ** 30, 10 * 2 ** 30, 15 * 2 ** 30)):
            paper = whole_or_test(rows, goal)
            self.told(True, is_whole_or_test(rows, goal, paper))
            self.told("test" if goal == (12, 20, 31) else "whole", paper[0])


class Bounds(Case):

    def test_most_rows_with_most_digits(self):
        rows = tuple(random_row(self.source, 16, SIXTY) for _ in range(400))
        goal = random_row(self.source, 16, SIXTY)
        self.told(16, rank(rows))
        self.told(tuple(tuple(int(k == at) for k in range(16)) for at in range(16)), basis(rows))
        self.told((), kernel(rows))
        paper = parts_or_form(rows, goal)
        self.told(scale(goal, paper[2]), mix(paper[1], rows))
        paper = whole_or_test(rows, goal)
        self.told(goal, mix(paper[1], rows))
        self.assertLess(longest(paper), 4000)

    def test_square_with_most_digits(self):
        rows = tuple(random_row(self.source, 16, SIXTY) for _ in range(16))
        goal = random_row(self.source, 16, SIXTY)
        self.told(det(rows), determinant(rows))
        self.assertTrue(reduces(basis(rows)))
        self.told("test", whole_or_test(rows, goal)[0])
        self.told(True, is_whole_or_test(rows, goal, whole_or_test(rows, goal)))
        self.told("form", parts_or_form(rows[:15], goal)[0])
        self.told(True, is_parts_or_form(rows[:15], goal, parts_or_form(rows[:15], goal)))
        line = kernel(rows[:15])[0]
        self.told([0] * 15, [dot(row, line) for row in rows[:15]])

    def test_few_in_many(self):
        heads = [random_row(self.source, 16, 10 ** 29) for _ in range(8)]
        rows = tuple(mix(random_row(self.source, 8, 10 ** 28), heads) for _ in range(400))
        self.told(8, rank(rows))
        self.told(8, len(kernel(rows)))
        for goal in (mix(random_row(self.source, 8, 9), heads), scale(rows[0], -1), random_row(self.source, 16, 9)):
            self.told(True, is_whole_or_test(rows, goal, whole_or_test(rows, goal)))
            self.told(True, is_parts_or_form(rows, goal, parts_or_form(rows, goal)))

    def test_equal_rows(self):
        rows = ((SIXTY,) * 16,) * 400
        self.told(1, rank(rows))
        self.told((rows[0],), basis(rows))
        self.told("test", whole_or_test(rows, (1,) * 16)[0])
        self.told("parts", parts_or_form(rows, (1,) * 16)[0])


class Errors(Case):

    def test_one_row(self):
        for call in (content, primitive):
            for row in BAD_ROWS:
                self.fails(InvalidRow, call, row)
        for row in BAD_ROWS:
            self.fails(InvalidRow, multiple, row, 1)
            self.fails(InvalidRow, multiple, row, "1")

    def test_numbers(self):
        for number in (True, False, None, "1", (1,), [1], SIXTY + 1, -SIXTY - 1, 10 ** 99):
            self.fails(InvalidNumber, multiple, (1, 2), number, given=number)

    def test_two_rows(self):
        for call in (told.plus, less, told.dot):
            for row in BAD_ROWS:
                self.fails(InvalidRow, call, row, (1,))
                self.fails(InvalidRow, call, (1,), row)
                self.fails(InvalidRow, call, row, row)
            self.fails(InvalidOperation, call, (1,), (1, 2))
            self.fails(InvalidOperation, call, (1,) * 16, (1,) * 15)

    def test_tuples_of_rows(self):
        for call in (rank, basis, kernel, determinant):
            for rows in BAD_ROW_TUPLES:
                self.fails(InvalidRow, call, rows)
        self.fails(InvalidOperation, determinant, ((1, 2),))
        self.fails(InvalidOperation, determinant, ((1,), (2,)))
        self.fails(InvalidOperation, determinant, ((1,),) * 400)

    def test_goals(self):
        calls = (
            parts_or_form, whole_or_test, lambda rows, goal: is_parts_or_form(rows, goal, None),
            lambda rows, goal: is_whole_or_test(rows, goal, ("whole", (1,))))
        for call in calls:
            for rows in BAD_ROW_TUPLES:
                self.fails(InvalidRow, call, rows, (1,))
                self.fails(InvalidRow, call, rows, None)
            for row in BAD_ROWS:
                self.fails(InvalidRow, call, ((1,),), row)
            self.fails(InvalidOperation, call, ((1,),), (1, 2))
            self.fails(InvalidOperation, call, ((1,) * 16,), (1,) * 15)


class Same(Case):

    def test_equal_calls(self):
        rows = tuple(random_row(self.source, 4, 9) for _ in range(6))
        kept = tuple(tuple(row) for row in rows)
        for call in (
                rank, basis, kernel, lambda x: parts_or_form(x, (1, 2, 3, 4)),
                lambda x: whole_or_test(x, (0, 0, 1, 5))):
            self.told(call(rows), call(kept))
        self.told(kept, rows)
