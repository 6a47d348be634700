"""Each example of the document does what the document shows."""

import unittest

from tests.examples import EXAMPLES
from tests.helpers import same

from rampworks import errors
from rampworks.base import rows
from rampworks.bench import bench
from rampworks.depth import bars, greatest, puts
from rampworks.hull import corners, mixed, sums, volumes
from rampworks.judge import claims
from rampworks.net import alike, networks, ones, readings, signs
from rampworks.plane import depth, fans, least
from rampworks.stick import cells, layer, sticks
from rampworks.text import texts


def steps():
    """Pairs of a statement and what is shown below it, None if nothing is."""
    lines = EXAMPLES.strip().split("\n")
    for at, line in enumerate(lines):
        if line.startswith(">>> "):
            shown = lines[at + 1] if at + 1 < len(lines) and not lines[at + 1].startswith(">>> ") else None
            yield line[4:], shown


class Examples(unittest.TestCase):

    def test_all(self):
        names, told = {}, 0
        for module in (errors, rows, corners, sums, volumes, networks, readings, alike, bars, greatest, fans, depth,
                       least, sticks, layer, cells, puts, signs, ones, mixed, texts, bench, claims):
            names.update({name: kept for name, kept in vars(module).items() if not name.startswith("_")})
        for statement, shown in steps():
            with self.subTest(statement):
                told += 1
                if shown is None:
                    exec(statement, names)
                elif shown.startswith("raises "):
                    self.raises(statement, shown[7:], names)
                else:
                    got, expected = eval(statement, names), eval(shown, {})
                    self.assertTrue(same(expected, got), f"{got!r} is not {expected!r}")
        self.assertEqual(told, 113)

    def raises(self, statement, shown, names):
        name, _, kept = shown.partition("(")
        with self.assertRaises(names[name]) as caught:
            eval(statement, names)
        self.assertIs(type(caught.exception), names[name])
        if kept:
            self.assertEqual(list(vars(caught.exception).values()), [eval("(" + kept, {})])
