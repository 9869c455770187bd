"""Points [3] and [11], as far as they speak of written nets."""

import re
import unittest

from ringbook.errors import NotRead
from ringbook.nets import Net
from ringbook.notes import read, shown
from tests.helpers import SIXTY_FIGURES, assert_refused, is_net, sample_nets

NUMBER = "(?:0|[1-9][0-9]*)"
WRITTEN = re.compile(f"{NUMBER}:(?: {NUMBER}>{NUMBER})*")
SIGNS = ["\t", "\n", "\r"] + [chr(code) for code in range(ord(" "), ord("~") + 1) if chr(code) != "%"]
EXAMPLE = "2: 0>1 1>0 1>1"


def told(text):
    """The places and roads of a text, or None: point [3], told apart from the program."""
    if WRITTEN.fullmatch(text) is None:
        return None
    numbers = [int(number) for number in re.findall("[0-9]+", text)]
    net = (numbers[0], list(zip(numbers[1::2], numbers[2::2])))
    return net if is_net(*net) else None


def changed_by_one_sign(text):
    """Each text that comes of leaving out, putting in or changing one sign."""
    for at in range(len(text) + 1):
        for sign in SIGNS:
            yield text[:at] + sign + text[at:]
            yield text[:at] + sign + text[at + 1 :]
        yield text[:at] + text[at + 1 :]


class Shown(unittest.TestCase):
    def test_example(self):
        self.assertEqual(shown(Net(2, [(0, 1), (1, 0), (1, 1)])), EXAMPLE)

    def test_smallest(self):
        self.assertEqual(shown(Net(1, [(0, 0)])), "1: 0>0")

    def test_two_figures(self):
        roads = [(place, 31 - place) for place in range(32)]
        expected = "32: " + " ".join(["%d>%d" % road for road in roads])
        self.assertEqual(shown(Net(32, roads)), expected)

    def test_order_of_roads_is_kept(self):
        self.assertEqual(shown(Net(2, [(1, 1), (0, 1), (1, 0), (0, 1)])), "2: 1>1 0>1 1>0 0>1")

    def test_net_stays(self):
        net = Net(2, [(0, 1), (1, 0), (1, 1)])
        shown(net)
        self.assertEqual((net.places(), net.roads()), (2, [(0, 1), (1, 0), (1, 1)]))
        self.assertEqual(shown(net), EXAMPLE)


class ReadBack(unittest.TestCase):
    def assert_read(self, text, places, roads):
        net = read(text)
        self.assertIsInstance(net, Net)
        self.assertEqual((net.places(), net.roads()), (places, roads))
        self.assertEqual(shown(net), text)

    def test_example(self):
        self.assert_read(EXAMPLE, 2, [(0, 1), (1, 0), (1, 1)])

    def test_written_and_read_back(self):
        for places, roads in sample_nets():
            with self.subTest(places=places, roads=roads):
                self.assert_read(shown(Net(places, roads)), places, roads)

    def test_two_readings_hang_on_nothing(self):
        first = read(EXAMPLE)
        first.roads().clear()
        self.assertEqual(read(EXAMPLE).roads(), first.roads())

    def test_every_text_one_sign_away(self):
        for start in [EXAMPLE, "1: 0>0", "1: 0>0 0>0", "3: 2>2 1>0 0>1"]:
            for text in changed_by_one_sign(start):
                with self.subTest(text=text):
                    net = told(text)
                    if net is None:
                        assert_refused(self, NotRead, read, text)
                    else:
                        self.assert_read(text, *net)


class NotReadTexts(unittest.TestCase):
    def assert_not_read(self, texts):
        for text in texts:
            with self.subTest(text=text):
                assert_refused(self, NotRead, read, text)

    def test_empty_and_near_it(self):
        self.assert_not_read(
            [
                "",
                " ",
                ":",
                ": ",
                ">",
                "0",
                "1",
                "1:",
                "1: ",
                "1 ",
                " :",
                ": 0>0",
                "1: >",
                "\n",
                "\t",
            ]
        )

    def test_nought_ahead(self):
        self.assert_not_read(
            [
                "02: 0>1 1>0",
                "2: 00>1 1>0",
                "2: 0>01 1>0",
                "2: 0>1 1>00",
                "00001: 0>0",
                "1: 0>" + "0" * 500,
            ]
        )

    def test_blanks(self):
        self.assert_not_read(
            [
                " 1: 0>0",
                "1: 0>0 ",
                "1:  0>0",
                "1 : 0>0",
                "1: 0 >0",
                "1: 0> 0",
                "1: 0>0  0>0",
                "1:0>0",
                "1: 0>00>0",
                " " + EXAMPLE + " ",
            ]
        )

    def test_tabs_and_line_ends(self):
        self.assert_not_read(
            [
                "1:\t0>0",
                "1: 0>0\t",
                "\t1: 0>0",
                "1: 0>0\n",
                "\n1: 0>0",
                "1:\n0>0",
                "1: 0>0\n0>0",
                "1: 0>0\r\n",
                "1\n: 0>0",
                "1: 0\n>0",
                "1: 0>\n0",
            ]
        )

    def test_signs_of_numbers_in_other_tongues(self):
        self.assert_not_read(
            [
                "-1: 0>0",
                "1: -0>0",
                "1: 0>-0",
                "1: 0>-1",
                "+1: 0>0",
                "1: +0>0",
                "1: 0>+0",
                "1_0: 0>0",
                "1: 0_0>0",
                "1.0: 0>0",
                "1e0: 0>0",
                "0x1: 0>0",
            ]
        )

    def test_other_signs(self):
        self.assert_not_read(
            [
                "1; 0>0",
                "1: 0<0",
                "1: 0->0",
                "1:: 0>0",
                "1: 0>>0",
                "1: 0>0>0",
                "1: 0>0, 0>0",
                "1: 0>0: 0>0",
                "1 0>0",
                "1: 0 0",
                "1: a>b",
                "x: 0>0",
                "1: 0>0;",
                "1: (0,0)",
            ]
        )

    def test_what_is_no_net(self):
        self.assert_not_read(
            [
                "0:",
                "0: 0>0",
                "33: " + " ".join([f"{place}>0" for place in range(33)]),
                "1:" + " 0>0" * 65,
                "1:" + " 0>0" * 149,
                "2: 0>1",
                "2: 1>0",
                "2: 0>1 0>0",
                "2: 0>2 1>0",
                "2: 2>0 0>1 1>0",
                "1: 0>1",
                "1: 1>0",
                "1: 0>0 0>99",
                "99: 0>0",
                "3: 0>1 1>0",
            ]
        )

    def test_most_roads_that_are_read(self):
        self.assertEqual(read("1:" + " 0>0" * 64).roads(), [(0, 0)] * 64)

    def test_many_figures(self):
        for many in [3, 60, 61, 590, 5000]:
            long = "1" * many
            self.assert_not_read(
                [
                    long,
                    f"{long}:",
                    f"{long}: 0>0",
                    f"1: {long}>0",
                    f"1: 0>{long}",
                    f"1: 0>0 0>{long}",
                ]
            )
        self.assert_not_read(
            [
                f"{SIXTY_FIGURES}: 0>0",
                f"1: 0>{SIXTY_FIGURES}",
                f"-{SIXTY_FIGURES}: 0>0",
                f"1: -{SIXTY_FIGURES}>0",
            ]
        )

    def test_long_texts(self):
        self.assert_not_read([sign * 600 for sign in SIGNS])

    def test_figures_of_other_scripts(self):
        self.assert_not_read(["\u0661: 0>0", "1: \u0660>0", "1: 0>\u00b2", "\uff11: 0>0"])


if __name__ == "__main__":
    unittest.main()
