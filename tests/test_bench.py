"""Stage 21: a bench."""

from tests.helpers import ODD_VALUES, SIXTY, Case, random_row
from tests.makings import polygon_network, told_by, with_one_changed, with_unit, with_unit_apart, without_unit
from tests.test_networks import BAD_NETWORKS, LAMP, random_network

from rampworks.bench.bench import Bench
from rampworks.depth.puts import put_network
from rampworks.errors import (
    InvalidNetwork, InvalidNumber, InvalidOperation, InvalidRow, InvalidText, NothingToUndo, TooMany, UnknownName)
from rampworks.net.alike import alike_or_point, is_alike_or_point
from rampworks.net.networks import Network, form_network

RAMP, OTHER = Network(2, (((1, -1),),), (0, 1, 1)), Network(2, (((-1, 1),),), (1, 0, 1))
WIDE = polygon_network(31)


class Account:
    """What a bench has to tell, kept as plainly as can be: whole copies of all that each place has."""

    def __init__(self):
        self.places, self.at = [({}, {})], 0

    def networks(self):
        return self.places[self.at][0]

    def answers(self):
        return self.places[self.at][1]

    def edit(self, networks, answers=None):
        kept = self.answers() if answers is None else answers
        self.places = self.places[:self.at + 1] + [(networks, dict(kept))]
        self.at += 1

    def put(self, name, network):
        self.edit({**self.networks(), name: network})

    def drop(self, name):
        self.edit({word: kept for word, kept in self.networks().items() if word != name},
                  {pair: kept for pair, kept in self.answers().items() if name not in pair})

    def is_right(self, pair):
        """Whether the kept answer is right for the networks as they are now."""
        one, other = (self.networks()[word] for word in pair)
        answer = self.answers()[pair]
        if one.inputs != other.inputs:
            return False
        if answer == ("alike",):
            return alike_or_point(one, other) == answer
        return len(answer[1]) == one.inputs and told_by(one, answer[1]) != told_by(other, answer[1])

    def known(self, pair):
        return self.answers()[pair] if pair in self.answers() and self.is_right(pair) else None


def two_names(source, names):
    return source.choice(names), source.choice(names)


class Runs(Case):

    def check(self, bench, account):
        names = tuple(sorted(account.networks()))
        self.told(names, bench.names)
        self.told(len(names), len(bench))
        self.told(f"bench of {len(names)} networks, {account.at} edits", str(bench))
        for name in names:
            self.assertIn(name, bench)
            self.assertTrue(bench.network_of(name) == account.networks()[name])
        self.assertNotIn("none", bench)
        for name in names:
            for other in names:
                try:
                    expected = account.known((name, other))
                except TooMany as error:
                    self.fails(TooMany, bench.known, name, other, limit=error.limit)
                    continue
                self.told(expected, bench.known(name, other))

    def ask(self, bench, account, pair):
        one, other = (account.networks()[name] for name in pair)
        if one.inputs != other.inputs:
            self.fails(InvalidOperation, bench.ask, *pair)
            return
        try:
            kept = account.known(pair)
            told = kept if kept is not None else alike_or_point(one, other)
        except TooMany as error:
            self.fails(TooMany, bench.ask, *pair, limit=error.limit)
            return
        self.told(told, bench.ask(*pair))
        self.told(True, is_alike_or_point(one, other, told))
        account.answers()[pair] = told

    def edit(self, bench, account, name):
        """One edit of a network, which the account reckons for itself."""
        source, network = self.source, account.networks()[name]
        kind = source.randrange(6) if network.depth > 0 else source.choice((3, 5))
        layer = source.randrange(network.depth) if network.depth > 0 else None
        if kind == 0:
            row = random_row(source, len(network.layers[layer][0]), 3)
            bench.unit(name, layer, row)
            account.put(name, with_unit(network, layer, row, lambda row: 0))
        elif kind == 1:
            unit = source.randrange(len(network.layers[layer]))
            row = random_row(source, len(network.layers[layer][0]), 3)
            bench.turn(name, layer, unit, row)
            units = network.layers[layer][:unit] + (row,) + network.layers[layer][unit + 1:]
            layers = network.layers[:layer] + (units,) + network.layers[layer + 1:]
            account.put(name, Network(network.inputs, layers, network.last))
        elif kind == 2:
            unit = source.randrange(len(network.layers[layer]))
            if len(network.layers[layer]) == 1:
                self.fails(InvalidOperation, bench.leave, name, layer, unit)
            else:
                bench.leave(name, layer, unit)
                account.put(name, self.left_without(network, layer, unit))
        elif kind == 3:
            row = random_row(source, len(network.last), 3)
            bench.last_row(name, row)
            account.put(name, Network(network.inputs, network.layers, row))
        elif kind == 4:
            changed = with_one_changed(source, network)
            bench.put(name, changed)
            account.put(name, changed)
        else:
            puts = tuple(random_row(source, source.choice((2, 2, 2, 3)), 1) for _ in range(1)) * network.inputs
            bench.put_in(name, puts)
            account.put(name, put_network(network, puts))

    def left_without(self, network, layer, unit):
        """The network without the unit, by the values of `without_unit`, which keeps it with members 0."""
        bare = without_unit(network, layer, unit)
        place = network.inputs + sum(len(units) for units in network.layers[:layer]) + unit
        layers = [units[:unit] + units[unit + 1:] if at == layer else tuple(
            row[:place] + row[place + 1:] if at > layer else row for row in units)
            for at, units in enumerate(bare.layers)]
        return Network(network.inputs, tuple(layers), bare.last[:place] + bare.last[place + 1:])

    def test_runs(self):
        for _ in range(12):
            bench, account = Bench(), Account()
            for _ in range(45):
                names = bench.names
                kind = self.source.randrange(12)
                if kind == 0 or not names:
                    name = self.source.choice(("a", "b", "longname"))
                    network = random_network(self.source, 2, [2, 1][:self.source.randint(0, 2)], 2, 0.3)
                    bench.put(name, network)
                    account.put(name, network)
                elif kind == 1 and len(names) > 1:
                    name = self.source.choice(names)
                    bench.drop(name)
                    account.drop(name)
                elif kind in (2, 3) and account.at > 0:
                    bench.undo()
                    account.at -= 1
                elif kind == 4 and account.at < len(account.places) - 1:
                    bench.redo()
                    account.at += 1
                elif kind < 9:
                    self.ask(bench, account, two_names(self.source, names))
                else:
                    self.edit(bench, account, self.source.choice(names))
                self.check(bench, account)
            while account.at > 0:
                bench.undo()
                account.at -= 1
                self.check(bench, account)
            self.fails(NothingToUndo, bench.undo, done=1)
            while account.at < len(account.places) - 1:
                bench.redo()
                account.at += 1
                self.check(bench, account)
            self.fails(NothingToUndo, bench.redo, done=-1)


class Answers(Case):

    def bench(self):
        bench = Bench()
        bench.put("one", RAMP)
        bench.put("two", OTHER)
        return bench

    def test_for_these_names_in_this_sequence(self):
        bench = self.bench()
        self.told(None, bench.known("one", "two"))
        self.told(("alike",), bench.ask("one", "two"))
        self.told(("alike",), bench.known("one", "two"))
        self.told(None, bench.known("two", "one"))
        self.told(None, bench.known("one", "one"))
        self.told(("alike",), bench.ask("one", "one"))

    def test_last_as_long_as_right(self):
        bench = self.bench()
        bench.last_row("one", (0, 2, 1))
        point = bench.ask("one", "two")
        self.told("point", point[0])
        # Other edits leave the point right, and it is told again, though a new answer would be another one.
        for last in ((0, 3, 1), (5, 0, 9), (-3, -8, 4)):
            bench.last_row("one", last)
            if told_by(bench.network_of("one"), point[1]) != told_by(OTHER, point[1]):
                self.told(point, bench.ask("one", "two"))
                self.told(point, bench.known("one", "two"))
        bench.last_row("one", (0, 1, 1))
        self.told(None, bench.known("one", "two"))
        self.told(("alike",), bench.ask("one", "two"))
        bench.last_row("two", (0, 0, 1))
        self.told(None, bench.known("one", "two"))
        self.told("point", bench.ask("one", "two")[0])

    def test_a_point_is_told_as_long_as_it_parts_them(self):
        bench = Bench()
        bench.put("a", Network(1, (((1,),),), (0, 1)))
        bench.put("b", Network(1, (((1,),),), (0, 2)))
        self.told(("point", (1,)), bench.ask("a", "b"))
        bench.put("b", form_network((-5,)))
        self.told(("point", (1,)), bench.ask("a", "b"))
        # Unlike at -1 alone: the point is not right now.
        bench.put("b", Network(1, (((-1,),),), (1, 2)))
        self.told(None, bench.known("a", "b"))
        self.told(("point", (-1,)), bench.ask("a", "b"))
        # Both rows would do, but the one that was told last is told.
        bench.put("b", form_network((-5,)))
        self.told(("point", (-1,)), bench.ask("a", "b"))
        bench.undo()
        bench.undo()
        self.told(("point", (1,)), bench.known("a", "b"))

    def test_kept_where_it_is_told(self):
        bench = self.bench()
        bench.ask("one", "two")
        bench.turn("one", 0, 0, (2, -2))
        self.told(None, bench.known("one", "two"))
        point = bench.ask("one", "two")
        bench.undo()
        self.told(("alike",), bench.known("one", "two"))
        bench.redo()
        self.told(point, bench.known("one", "two"))
        bench.undo()
        self.told(("alike",), bench.ask("two", "two"))
        bench.redo()
        self.told(None, bench.known("two", "two"))

    def test_drop_and_put(self):
        bench = self.bench()
        bench.ask("one", "two")
        bench.ask("two", "two")
        # Another network under the name: its answers stay.
        bench.put("one", with_unit_apart(self.source, RAMP))
        self.told(("alike",), bench.known("one", "two"))
        bench.drop("one")
        self.told(("alike",), bench.known("two", "two"))
        bench.put("one", RAMP)
        self.told(None, bench.known("one", "two"))
        bench.undo()
        bench.undo()
        self.told(("alike",), bench.known("one", "two"))

    def test_unlike_inputs(self):
        bench = self.bench()
        bench.last_row("one", (0, 2, 1))
        point = bench.ask("one", "two")
        bench.put_in("one", ((1,), (1,)))
        self.told(None, bench.known("one", "two"))
        self.fails(InvalidOperation, bench.ask, "one", "two")
        bench.put_in("two", ((2,), (1,)))
        # As many inputs, but a point has more members.
        self.told(None, bench.known("one", "two"))
        self.told("point", bench.ask("one", "two")[0])
        bench.undo()
        bench.undo()
        self.told(point, bench.known("one", "two"))

    def test_errors_of_likeness(self):
        bench = self.bench()
        bench.put("wide", WIDE)
        self.fails(TooMany, bench.ask, "one", "wide", limit=60)
        self.told(None, bench.known("one", "wide"))
        bench.put("wide", form_network((5, 0)))
        point = bench.ask("one", "wide")
        bench.put("wide", WIDE)
        # A point is looked at by both values; likeness is not.
        self.assertNotEqual(told_by(RAMP, point[1]), told_by(WIDE, point[1]))
        self.told(point, bench.known("one", "wide"))
        self.told(point, bench.ask("one", "wide"))
        bench.ask("two", "two")
        bench.put("two", WIDE)
        self.fails(TooMany, bench.known, "two", "two", limit=60)
        self.fails(TooMany, bench.ask, "two", "two", limit=60)
        bench.put("five", polygon_network(25))
        bench.put("four", polygon_network(25))
        self.told(("alike",), bench.ask("five", "four"))
        bench.put("four", polygon_network(21, -1))
        self.fails(TooMany, bench.known, "five", "four", limit=2000)


class Edits(Case):

    def test_those_that_change_no_value(self):
        for _ in range(25):
            bench = Bench()
            network = random_network(self.source, self.source.randint(1, 3), [2, 3][:self.source.randint(1, 2)], 3, 0.2)
            bench.put("it", network)
            layer = self.source.randrange(network.depth)
            bench.unit("it", layer, random_row(self.source, len(network.layers[layer][0]), 3))
            grown = bench.network_of("it")
            self.told(len(network.units) + 1, len(grown.units))
            for _ in range(5):
                row = random_row(self.source, network.inputs, 9)
                self.told(told_by(network, row), told_by(grown, row))
            # The unit has no say: it can be left out, and what was is there again.
            bench.leave("it", layer, len(network.layers[layer]))
            self.assertTrue(bench.network_of("it") == network)

    def test_known(self):
        bench = Bench()
        bench.put("it", Network(2, (((1, -1), (0, 1)), ((1, 0, -1, 0), (2, 2, 2, 2))), (7, 8, 1, 2, 3, 4)))
        bench.unit("it", 0, (5, 6))
        told = bench.network_of("it")
        self.told((((1, -1), (0, 1), (5, 6)), ((1, 0, -1, 0, 0), (2, 2, 2, 2, 0))), told.layers)
        self.told((7, 8, 1, 2, 0, 3, 4), told.last)
        bench.leave("it", 0, 1)
        told = bench.network_of("it")
        self.told((((1, -1), (5, 6)), ((1, 0, -1, 0), (2, 2, 2, 0))), told.layers)
        self.told((7, 8, 1, 0, 3, 4), told.last)
        bench.turn("it", 1, 1, (9, 9, 9, 9))
        self.told(((1, 0, -1, 0), (9, 9, 9, 9)), bench.network_of("it").layers[1])
        bench.last_row("it", (1, 2, 3, 4, 5, 6))
        self.told((1, 2, 3, 4, 5, 6), bench.network_of("it").last)
        bench.put_in("it", ((1, 1, 0), (0, 1, 1)))
        self.told((3, (1, 3, 2, 3, 4, 5, 6)), (bench.network_of("it").inputs, bench.network_of("it").last))
        self.told("bench of 1 networks, 6 edits", str(bench))

    def test_an_edit_ends_what_could_be_redone(self):
        bench = Bench()
        bench.put("a", RAMP)
        bench.put("b", OTHER)
        bench.undo()
        bench.put("c", RAMP)
        self.fails(NothingToUndo, bench.redo, done=-1)
        self.told(("a", "c"), bench.names)
        # Asking is no edit.
        bench.undo()
        bench.ask("a", "a")
        bench.known("a", "a")
        bench.redo()
        self.told(("a", "c"), bench.names)
        # What is put as it was is an edit, too.
        bench.put("a", RAMP)
        self.told("bench of 2 networks, 3 edits", str(bench))

    def test_equal_benches(self):
        one, other = Bench(), Bench()
        self.assertTrue(one == other)
        one.put("a", RAMP)
        self.assertTrue(one != other)
        other.put("a", OTHER)
        self.assertTrue(one != other)
        other.put("a", Network(2, (((1, -1),),), (0, 1, 1)))
        self.assertTrue(one == other)
        one.ask("a", "a")
        self.assertTrue(one == other)
        other.put("b", RAMP)
        self.assertFalse(one == other)
        other.drop("b")
        self.assertTrue(one == other)
        for value in ODD_VALUES + (RAMP,):
            self.assertFalse(one == value)
            self.assertTrue(one != value)

    def test_no_state_in_common(self):
        one, other = Bench(), Bench()
        one.put("a", RAMP)
        self.told((), other.names)
        self.told(0, len(other))
        self.told("bench of 0 networks, 0 edits", str(other))
        other.put("a", RAMP)
        one.ask("a", "a")
        self.told(None, other.known("a", "a"))
        self.told(("a",), one.names)


class Errors(Case):

    def full(self):
        bench = Bench()
        bench.put("one", RAMP)
        bench.put("two", Network(2, (((1, 0), (0, 1)), ((0, 0, 1, -1),)), (0, 0, 1, 0, -1)))
        bench.ask("one", "two")
        bench.drop("one")
        bench.undo()
        return bench

    def unchanged(self, bench, error, call, *passed, **kept):
        before = (str(bench), bench.names, bench.known("one", "two"), bench.network_of("two").layers)
        self.fails(error, call, *passed, **kept)
        self.told(before, (str(bench), bench.names, bench.known("one", "two"), bench.network_of("two").layers))
        # What could be redone still can be.
        bench.redo()
        self.assertNotIn("one", bench)
        bench.undo()

    def test_names(self):
        bench = self.full()
        for bad in ODD_VALUES + ("three", "One", "one ", b"one", "o", ["one"], ("one",)):
            for call in (bench.drop, bench.network_of, lambda name: bench.unit(name, None, None),
                         lambda name: bench.turn(name, None, None, None), lambda name: bench.last_row(name, None),
                         lambda name: bench.leave(name, None, None), lambda name: bench.put_in(name, None),
                         lambda name: bench.ask(name, "none"), lambda name: bench.ask("two", name),
                         lambda name: bench.known(name, 5), lambda name: bench.known("one", name)):
                self.unchanged(bench, UnknownName, call, bad, wanted=bad)
            self.assertNotIn(bad, bench)
        for bad in ODD_VALUES + ("", "One", "a b", "a1", "a_", "abcdefghi", b"one", "\u00e9", ["one"]):
            if bad != "text":
                self.unchanged(bench, InvalidText, bench.put, bad, None)
        bench.put("abcdefgh", RAMP)
        bench.put("z", RAMP)
        self.told(("abcdefgh", "one", "two", "z"), bench.names)

    def test_networks(self):
        bench = self.full()
        for bad in BAD_NETWORKS + ODD_VALUES:
            self.unchanged(bench, InvalidNetwork, bench.put, "one", bad)

    def test_twelve_networks(self):
        bench = Bench()
        for at in range(12):
            bench.put("abcdefghijkl"[at], RAMP)
        self.fails(TooMany, bench.put, "m", RAMP, limit=12)
        self.fails(InvalidNetwork, bench.put, "m", None)
        bench.put("a", OTHER)
        bench.drop("b")
        bench.put("m", RAMP)
        self.told(12, len(bench))
        self.told("bench of 12 networks, 15 edits", str(bench))

    def test_indices_and_rows(self):
        bench = self.full()
        for bad in (2, -1, True, None, "0", 10 ** 60, (0,)):
            self.unchanged(bench, InvalidNumber, bench.unit, "two", bad, None, given=bad)
            self.unchanged(bench, InvalidNumber, bench.turn, "two", bad, None, None, given=bad)
            self.unchanged(bench, InvalidNumber, bench.leave, "two", bad, None, given=bad)
            self.unchanged(bench, InvalidNumber, bench.turn, "two", 0, bad, None, given=bad)
            self.unchanged(bench, InvalidNumber, bench.leave, "two", 0, bad, given=bad)
        for bad in ODD_VALUES + ((1,), (1, 2, 3), [1, 2], (1, True), (1, SIXTY + 1)):
            self.unchanged(bench, InvalidRow, bench.unit, "two", 0, bad)
            self.unchanged(bench, InvalidRow, bench.turn, "two", 0, 1, bad)
            self.unchanged(bench, InvalidRow, bench.last_row, "two", bad)
            self.unchanged(bench, InvalidRow, bench.unit, "two", 1, bad)
        self.unchanged(bench, InvalidOperation, bench.leave, "two", 1, 0)
        self.unchanged(bench, InvalidOperation, bench.leave, "one", 0, 0)

    def test_puts(self):
        bench = self.full()
        for bad in ODD_VALUES + (((1, 2), (1,)), [(1,), (1,)], ((1,) * 9,) * 2, ((True,), (1,)), ((1,),) * 9):
            if bad not in (((2,), (1,)), ((1,), (1,))):
                self.unchanged(bench, InvalidRow, bench.put_in, "two", bad)
        self.unchanged(bench, InvalidOperation, bench.put_in, "two", ((1,),))
        bench.put("long", Network(2, (((2, 0),),), (0, 0, 1)))
        bench.undo()
        bench.redo()
        self.fails(TooMany, bench.put_in, "long", ((SIXTY,), (1,)), limit=10 ** 60)

    def test_many_units(self):
        bench = Bench()
        bench.put("it", Network(1, (((1,),) * 63, ((0,) * 64,) * 63), (0,) * 127))
        bench.unit("it", 0, (5,))
        self.fails(TooMany, bench.unit, "it", 0, (5,), limit=64)
        self.fails(InvalidRow, bench.unit, "it", 0, (5, 5))
        bench.unit("it", 1, (0,) * 65)
        self.told(128, len(bench.network_of("it").units))
        self.fails(TooMany, bench.unit, "it", 0, (5,), limit=64)
        bench.put("it", Network(1, (((1,),) * 43, ((0,) * 44,) * 43, ((0,) * 87,) * 42), (0,) * 129))
        self.fails(TooMany, bench.unit, "it", 0, (5,), limit=128)
        self.told("bench of 1 networks, 4 edits", str(bench))

    def test_nothing_to_undo(self):
        bench = Bench()
        self.fails(NothingToUndo, bench.undo, done=1)
        self.fails(NothingToUndo, bench.redo, done=-1)
        bench.put("a", LAMP)
        self.fails(NothingToUndo, bench.redo, done=-1)
        bench.undo()
        self.fails(NothingToUndo, bench.undo, done=1)
        self.told((), bench.names)

    def test_what_methods_return(self):
        bench = Bench()
        for told in (bench.put("a", RAMP), bench.unit("a", 0, (1, 1)), bench.turn("a", 0, 0, (2, 2)),
                     bench.last_row("a", (1, 1, 1, 1)), bench.leave("a", 0, 1), bench.put_in("a", ((1, 0), (0, 1))),
                     bench.drop("a"), bench.undo(), bench.redo()):
            self.assertIsNone(told)

    def test_not_iterated(self):
        bench = self.full()
        with self.assertRaises(TypeError):
            iter(bench)
        with self.assertRaises(AttributeError):
            bench.names = ()
