"""Stage 20: texts."""

from tests.helpers import ODD_VALUES, SIXTY, Case, moments, random_lot
from tests.test_networks import BAD_NETWORKS, LAMP, random_network

from rampworks.errors import InvalidLot, InvalidNetwork, InvalidReading, InvalidText, ParseError
from rampworks.hull.corners import corners, is_lot
from rampworks.net.networks import Network, form_network
from rampworks.net.readings import is_reading
from rampworks.text.texts import lot_text, network_text, read_lot, read_network, read_reading, reading_text

STICK, POINT = ((0, 0), (1, 1)), ((0, 0),)
READERS = (read_lot, read_reading, read_network)
LOT, READING = "lot\n  -3 0\n  2 7\nend\n", "reading\nabove\n  0 0\n  1 1\nbelow\n  0 0\nend\n"
NETWORK = "network 2\nlayer\n  1 -1\n  0 2\nlayer\n  1 0 0 -1\nlast\n  0 1 1 5 -6\nend\n"


def by_hand(rows):
    return "".join("  " + " ".join(str(x) for x in row) + "\n" for row in rows)


class Texts(Case):

    def test_line_by_line(self):
        for _ in range(60):
            length = self.source.randint(1, 8)
            size = self.source.choice((1, 12, SIXTY))
            lot, other = (random_lot(self.source, self.source.randint(1, 6), length, size) for _ in range(2))
            self.told("lot\n" + by_hand(lot) + "end\n", lot_text(lot))
            self.told(lot, read_lot(lot_text(lot)))
            text = "reading\nabove\n" + by_hand(lot) + "below\n" + by_hand(other) + "end\n"
            self.told(text, reading_text((lot, other)))
            self.told((lot, other), read_reading(text))
            widths = [self.source.randint(1, 4) for _ in range(self.source.randint(0, 4))]
            network = random_network(self.source, length, widths, size, 0.3)
            layers = "".join("layer\n" + by_hand(units) for units in network.layers)
            text = f"network {length}\n" + layers + "last\n" + by_hand([network.last]) + "end\n"
            self.told(text, network_text(network))
            self.assertTrue(read_network(text) == network)
            self.told(network_text(network), network_text(read_network(text)))

    def test_known(self):
        self.told(((-3, 0), (2, 7)), read_lot(LOT))
        self.told((STICK, POINT), read_reading(READING))
        self.told(NETWORK, network_text(read_network(NETWORK)))
        self.assertTrue(read_network("network 1\nlast\n  0\nend\n") == form_network((0,)))

    def test_most(self):
        lot = moments(400, 2)
        self.told(lot, read_lot(lot_text(lot)))
        self.told((lot, lot), read_reading(reading_text((lot, lot))))
        long_lot = tuple((SIXTY - 400 + k,) + (-SIXTY,) * 7 for k in range(400))
        self.told((long_lot, long_lot), read_reading(reading_text((long_lot, long_lot))))
        layers, width = [], 8
        for many in (64, 60, 3, 1):
            layers.append(tuple((-SIXTY,) * width for _ in range(many)))
            width += many
        network = Network(8, tuple(layers), (SIXTY,) * width)
        self.assertTrue(read_network(network_text(network)) == network)
        self.assertLess(len(network_text(network)), 1200000)

    def test_not_true(self):
        # Alike lots have unlike texts; a text without one of its rows can be read.
        lot = ((0,), (1,), (2,))
        self.told(corners(lot), read_lot("lot\n  0\n  2\nend\n"))
        self.assertNotEqual(lot_text(lot), lot_text(corners(lot)))


class Refused(Case):

    def spot(self, read, text, line):
        self.fails(ParseError, read, text, spot=line)

    def test_words(self):
        for word in ("Lot", " lot", "lot ", "lots", "", "reading", "end", "  0 0", "lot\\n"):
            self.spot(read_lot, word + LOT[3:], 0)
        for word in ("End", " end", "end ", "", "below", "last", "  ", "lot"):
            self.spot(read_lot, LOT[:-4] + word + "\n", 3)
        for at, line in enumerate(READING.split("\n")[:-1]):
            if not line.startswith(" "):
                for word in (line.upper(), line + " ", " " + line, "", "lot"):
                    lines = READING.split("\n")
                    lines[at] = word
                    self.spot(read_reading, "\n".join(lines), at)
        for at, line in enumerate(NETWORK.split("\n")[:-1]):
            if not line.startswith(" "):
                for word in (line.upper(), line + " ", " " + line, "", "lot"):
                    lines = NETWORK.split("\n")
                    lines[at] = word
                    self.spot(read_network, "\n".join(lines), at)

    def test_rows(self):
        bad = ("  2 07", "  2 7 ", "  2  7", " 2 7", "   2 7", "2 7", "  2", "  2 7 1", "  2 -0", "  2 +7", "  2 7.0",
               "  2,7", "  two 7", "  2 00", "  2 -07", "  2 --7", "  2 7-", "  2 -", "  ", " ", "", "  2 " + "1" * 61,
               "  2 -" + "1" * 61, "  2 0x7", "  2 1_0")
        for row in bad:
            self.spot(read_lot, f"lot\n  1 1\n{row}\nend\n", 2)
            self.spot(read_reading, f"reading\nabove\n  1 1\nbelow\n{row}\nend\n", 4)
            self.spot(read_network, f"network 2\nlayer\n{row}\nlast\n  1 1 1\nend\n", 2)
            self.spot(read_network, f"network 2\nlast\n{row}\nend\n", 2)
        self.told(((2, 7 + 10 ** 59),), read_lot(f"lot\n  2 {7 + 10 ** 59}\nend\n"))
        self.told(((2, -SIXTY),), read_lot(f"lot\n  2 {-SIXTY}\nend\n"))
        self.told(((0, 0),), read_lot("lot\n  0 0\nend\n"))
        self.spot(read_lot, "lot\n" + by_hand([(1,) * 9]) + "end\n", 1)
        self.spot(read_lot, "lot\n  \nend\n", 1)

    def test_points(self):
        # Points ascend, and are not one too many; nothing stands ahead of the first one.
        self.spot(read_lot, "lot\n  0 0\n  0 0\nend\n", 2)
        self.spot(read_lot, "lot\n  0 1\n  0 0\nend\n", 2)
        self.spot(read_lot, "lot\n  0 0\n  0 1\n  0\nend\n", 3)
        self.spot(read_lot, "lot\nend\n", 1)
        rows = by_hand(moments(401, 1))
        self.spot(read_lot, "lot\n" + rows + "end\n", 401)
        self.spot(read_reading, "reading\nabove\n" + rows + "below\n  1\nend\n", 402)
        self.spot(read_reading, "reading\nabove\n  1\nbelow\n" + rows + "end\n", 404)
        self.spot(read_reading, "reading\nabove\nbelow\n  0\nend\n", 2)
        self.spot(read_reading, "reading\nabove\n  0\nbelow\nend\n", 4)
        self.spot(read_reading, "reading\nabove\n  0\nend\n", 3)
        self.spot(read_reading, "reading\nabove\n  0\nbelow\n  0\nbelow\n", 5)
        self.spot(read_reading, "reading\n  0\n", 1)

    def test_networks(self):
        self.spot(read_network, "network 2\nlayer\nlast\n", 2)
        self.spot(read_network, "network 2\nlayer\nlayer\n", 2)
        self.spot(read_network, "network 2\nlayer\n  1 1\nlayer\nlast\n", 4)
        for number in ("0", "9", "-1", "01", "", " 2", "2 ", "two", "10", "1" * 61, "2.0", "-0", "+2"):
            self.spot(read_network, f"network {number}\nlast\n  1 1\nend\n", 0)
        for head in ("network", "network2", "networks 2", "Network 2", "network\t2".replace("\t", "  ")):
            self.spot(read_network, f"{head}\nlast\n  1 1\nend\n", 0)
        self.spot(read_network, "network 2\nlast\nend\n", 2)
        self.spot(read_network, "network 2\nlast\n  1 1\n  1 1\nend\n", 3)
        self.spot(read_network, "network 2\n  1 1\nlast\n  1 1 1\nend\n", 1)
        self.spot(read_network, "network 2\nend\n", 1)
        # A unit too many in a layer, one too many in all, a layer too many.
        self.spot(read_network, "network 1\nlayer\n" + "  0\n" * 65 + "last\n", 66)
        text = "network 1\nlayer\n" + "  0\n" * 64
        text += "layer\n" + ("  0" + " 0" * 64 + "\n") * 64
        last = "last\n  0" + " 0" * 128 + "\nend\n"
        self.told(128, len(read_network(text + last).units))
        self.spot(read_network, text + "layer\n  0" + " 0" * 128 + "\n" + last, 132)
        self.spot(read_network, text + "layer\nlast\n", 132)
        self.spot(read_network, text + "layer\n", 132)
        text = "network 1\n" + "".join("layer\n  0" + " 0" * k + "\n" for k in range(4))
        self.told(4, read_network(text + "last\n  0 0 0 0 0\nend\n").depth)
        self.spot(read_network, text + "layer\n  0 0 0 0 0\nlast\n  0 0 0 0 0 0\nend\n", 9)

    def test_lines_put_in_left_out_doubled_and_cut(self):
        for read, text in ((read_lot, LOT), (read_reading, READING), (read_network, NETWORK)):
            lines = text.split("\n")[:-1]
            for at in range(len(lines) + 1):
                for other in ("", "#", "end", "  0 0 0", "layer", "  7"):
                    put = lines[:at] + [other] + lines[at:]
                    if other == "  7" or (at < len(lines) and other == lines[at]):
                        continue
                    self.refused_at_once(read, "\n".join(put) + "\n")
            for at in range(len(lines)):
                self.refused_at_once(read, "\n".join(lines[:at] + [lines[at]] * 2 + lines[at + 1:]) + "\n")
                self.refused_at_once(read, "\n".join(lines[:at] + lines[at + 1:]) + "\n")
                # Cut behind a line: something lacks.
                self.spot(read, "".join(line + "\n" for line in lines[:at]), at)
                # Cut within a line: it has no newline.
                for short in (lines[at], lines[at][:-1], lines[at][:1]):
                    if short:
                        self.spot(read, "".join(line + "\n" for line in lines[:at]) + short, at)
            self.spot(read, text + "\n", len(lines))
            self.spot(read, text + "end\n", len(lines))
            self.spot(read, text + " ", len(lines))
            self.spot(read, text + text, len(lines))
            self.spot(read, "\n" + text, 0)
            self.spot(read, "", 0)
            self.spot(read, "\n", 0)
            self.spot(read, text[:-1], len(lines) - 1)

    def refused_at_once(self, read, text):
        """The first line that cannot stand is told, unless the text can be read."""
        try:
            read(text)
        except ParseError as error:
            self.told(self.first_bad(read, text), error.spot)

    def first_bad(self, read, text):
        """The index of the first line with which no text goes on to be read further."""
        lines = text.split("\n")[:-1]
        for at in range(len(lines)):
            try:
                read("".join(line + "\n" for line in lines[:at + 1]))
            except ParseError as error:
                if error.spot == at:
                    return at
        return len(lines)


class Errors(Case):

    def test_texts(self):
        for bad in ODD_VALUES + (b"lot\n", ["lot"], LOT.replace("\n", "\r\n"), LOT.replace(" ", "\t"), "lot\x00", "l\u00f6t",
                                 "lot\x7f", "\u0661", "lot\u2028", "x" * 1200001, LOT + "\x0b", 0):
            if not isinstance(bad, str) or len(bad) > 20 or any(c != "\n" and not " " <= c <= "~" for c in bad):
                for read in READERS:
                    self.fails(InvalidText, read, bad)

    def test_any_length(self):
        for text in ("x" * 1200000, "\n" * 1200000, "lot\n" + "  1 " * 299990, "network 1\nlayer\n" + "  1\n" * 299990,
                     "lot\n  " + "1" * 1199990, "reading\nabove\n" + "  1\n" * 290000):
            for read in READERS:
                with self.assertRaises(ParseError):
                    read(text)

    def test_values(self):
        for bad in ODD_VALUES:
            if not is_lot(bad):
                self.fails(InvalidLot, lot_text, bad)
            if not is_reading(bad):
                self.fails(InvalidReading, reading_text, bad)
        for bad in BAD_NETWORKS + ODD_VALUES:
            self.fails(InvalidNetwork, network_text, bad)

    def test_equal_calls(self):
        self.told(network_text(LAMP), network_text(LAMP))
        self.assertTrue(read_network(NETWORK) == read_network(NETWORK))
