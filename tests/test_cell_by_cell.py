"""What is told of one network, cell by cell, by its values, readings, likeness, cells and signs agrees."""

from tests.helpers import Case, dot, minus, random_row, scale
from tests.makings import excess_of, made_alike, told_by, with_one_changed
from tests.test_cells import planes_by, turned

from rampworks.errors import TooMany
from rampworks.hull.sums import summed
from rampworks.net.alike import alike_or_point, greatest_or_rows, straight_or_rows
from rampworks.net.networks import Network, form_at, pattern_at, value_of
from rampworks.net.readings import reading_of, value_at_reading
from rampworks.net.signs import above_or_row, form_or_unit, is_in_cone, is_mixed, sign_or_row, unit_kind
from rampworks.stick.cells import cell_at, cell_or_weights, cells, corner_of, count_cells, walls, way_between


def layer_network(source):
    """A network of one layer without units of zeros."""
    inputs = source.randint(1, 4)
    units = []
    while len(units) < source.randint(1, 5):
        row = random_row(source, inputs, 2)
        if any(row):
            units.append(row)
    return Network(inputs, (tuple(units),), tuple(source.randint(-3, 3) for _ in range(inputs + len(units))))


def cone_of(sticks, signs):
    """The cone of a cell, by its walls."""
    return tuple(scale(sticks[plane[0]], signs[plane[0]]) for plane in walls(sticks, signs))


class CellByCell(Case):

    def each(self, many):
        for _ in range(many):
            network = layer_network(self.source)
            sticks = network.layers[0]
            for signs in cells(sticks):
                yield network, sticks, signs, cell_or_weights(sticks, signs)[1]

    def test_forms_and_patterns(self):
        for network, sticks, signs, row in self.each(40):
            cone = cone_of(sticks, signs)
            self.told(tuple(sign == 1 for sign in signs), pattern_at(network, row))
            self.told(signs, cell_at(sticks, row))
            self.told(True, is_in_cone(cone, row))
            form = form_at(network, row)
            self.told(("form", form), form_or_unit(network, cone))
            self.told(dot(form, row), value_of(network, row))
            self.told(dot(form, row), value_at_reading(reading_of(network), row))
            for unit, sign in enumerate(signs):
                self.told("open" if sign == 1 else "shut", unit_kind(network, 0, unit, cone))
            one = Network(network.inputs, (sticks,), (0,) * network.inputs + (1,) * len(sticks))
            self.told(corner_of(sticks, signs), form_at(one, row))

    def test_walls(self):
        for network, sticks, signs, row in self.each(25):
            around = [plane for plane in planes_by(sticks) if turned(signs, plane) in cells(sticks)]
            self.told(tuple(sorted(around)), walls(sticks, signs))
            for plane in around:
                # Without the wall both cells are in the cone, and its units alone are mixed on both together.
                cone = tuple(scale(sticks[other[0]], signs[other[0]]) for other in planes_by(sticks) if other != plane)
                beyond = cell_or_weights(sticks, turned(signs, plane))[1]
                self.told(True, all(dot(wall, beyond) > 0 for wall in cone))
                for unit, sign in enumerate(signs):
                    kind = unit_kind(network, 0, unit, cone)
                    self.told("mixed" if unit in plane else "open" if sign == 1 else "shut", kind)
                    if unit in plane:
                        rows = (row, beyond) if sign == 1 else (beyond, row)
                        self.told(True, is_mixed(network, 0, unit, cone, rows))

    def test_alike_exactly_if_alike_in_all_cells(self):
        found = {}
        for _ in range(60):
            network = layer_network(self.source)
            others = [other for other in made_alike(self.source, network) if other.depth == 1]
            other = self.source.choice(others)
            if self.source.random() < 0.5:
                other = with_one_changed(self.source, other)
            sticks = tuple(row for row in network.units + other.units if any(row))
            rows = [cell_or_weights(sticks, signs)[1] for signs in cells(sticks)]
            same = all(form_at(network, row) == form_at(other, row) for row in rows)
            told = alike_or_point(network, other)
            self.told(same, told == ("alike",))
            found[same] = True
            # Nowhere below one another just if they are alike.
            both = [above_or_row(one, two, ())[0] == "above" for one, two in ((network, other), (other, network))]
            self.told(same, both == [True, True])
        self.told(2, len(found))

    def test_signs_by_cells(self):
        found = {}
        for _ in range(60):
            network = layer_network(self.source)
            told = sign_or_row(network, ())[0]
            least = []
            for signs in cells(network.layers[0]):
                cone = cone_of(network.layers[0], signs)
                least.append(sign_or_row(network, cone)[0])
            self.told("below" if "below" in least else "sums", told)
            found[told] = True
        self.told(2, len(found))

    def test_greatest_and_straight_by_cells(self):
        found = {}
        for _ in range(60):
            network = layer_network(self.source)
            sticks = network.layers[0]
            rows = {signs: cell_or_weights(sticks, signs)[1] for signs in cells(sticks)}
            forms = {signs: form_at(network, rows[signs]) for signs in rows}
            told = straight_or_rows(network)
            self.told(len(set(forms.values())) == 1, told[0] == "straight")
            # A greatest of forms bends upwards at each wall.
            upwards = all(
                dot(minus(forms[turned(signs, plane)], forms[signs]), rows[turned(signs, plane)]) >= 0
                for signs in rows for plane in walls(sticks, signs))
            greatest = greatest_or_rows(network)
            self.told(upwards, greatest[0] == "greatest")
            found[greatest[0], told[0]] = True
            if greatest[0] == "greatest":
                self.told(tuple(sorted(set(forms.values()))), greatest[1])
            else:
                self.assertGreater(excess_of(network, greatest[1], greatest[2]), 0)
        self.assertGreater(len(found), 2)

    def test_corners_of_the_reading(self):
        for _ in range(40):
            network = layer_network(self.source)
            sticks = network.layers[0]
            above, below = reading_of(network)
            self.assertLessEqual(len(summed(above, below)), count_cells(sticks))
            if all(network.last[network.inputs:]):
                self.told(count_cells(sticks), len(summed(above, below)))

    def test_values_along_ways(self):
        for _ in range(25):
            network = layer_network(self.source)
            sticks = network.layers[0]
            known = cells(sticks)
            one, other = self.source.choice(known), self.source.choice(known)
            for begin, end in zip(way_between(sticks, one, other), way_between(sticks, one, other)[1:]):
                x, y = cell_or_weights(sticks, begin)[1], cell_or_weights(sticks, end)[1]
                change = minus(form_at(network, y), form_at(network, x))
                plane = [at for at in range(len(sticks)) if begin[at] != end[at]]
                total = (0,) * network.inputs
                for at in plane:
                    weight = network.last[network.inputs + at] * end[at]
                    total = tuple(z + weight * member for z, member in zip(total, sticks[at]))
                self.told(total, change)

    def test_deep_networks_on_cones(self):
        known = 0
        for _ in range(40):
            first = layer_network(self.source)
            width = first.inputs + len(first.units)
            layer = tuple(random_row(self.source, width, 2) for _ in range(2))
            network = Network(first.inputs, (*first.layers, layer), random_row(self.source, width + 2, 2))
            for signs in cells(first.layers[0])[:6]:
                cone = cone_of(first.layers[0], signs)
                try:
                    told = form_or_unit(network, cone)
                except TooMany as error:
                    self.told(60, error.limit)
                    continue
                row = cell_or_weights(first.layers[0], signs)[1]
                if told[0] == "form":
                    known += 1
                    self.told(told_by(network, row), dot(told[1], row))
                else:
                    # The first layer is told by the cell: a mixed unit is behind it.
                    self.told(1, told[1])
                    self.told("mixed", unit_kind(network, 1, told[2], cone))
        self.assertGreater(known, 20)
