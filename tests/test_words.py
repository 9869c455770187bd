"""Points [9], [10] and [11], as far as they speak of signs and words."""

import itertools
import math
import random
import unittest

from ringbook.errors import NoNumber, NoRing, NoWords
from ringbook.nets import Net
from ringbook.rings import many_rings, ring_at, ring_number
from ringbook.words import many_word_rings, word_net, word_ring, word_ring_number
from tests.helpers import SIXTY_FIGURES, WORD_SIZES, assert_refused, drawn_numbers, is_word_ring

BEYOND = [0, -1, -2, -6, 7, 8, 64, 65, 10**59, SIXTY_FIGURES, -SIXTY_FIGURES]


def refused_sizes():
    asked = list(range(1, 7)) + BEYOND
    return [pair for pair in itertools.product(asked, asked) if pair not in WORD_SIZES]


def number_of_word(signs, word):
    return sum(sign * signs**weight for weight, sign in enumerate(reversed(word)))


class WhatIsTaken(unittest.TestCase):
    def test_sizes(self):
        expected = [(1, size) for size in range(1, 7)] + [(2, size) for size in range(1, 7)]
        expected += [(3, 1), (3, 2), (3, 3), (4, 1), (4, 2), (4, 3), (5, 1), (5, 2), (6, 1), (6, 2)]
        self.assertEqual(WORD_SIZES, expected)

    def test_taken(self):
        for signs, size in WORD_SIZES:
            with self.subTest(signs=signs, size=size):
                self.assertIsInstance(word_net(signs, size), Net)
                self.assertGreater(many_word_rings(signs, size), 0)
                word_ring_number(signs, size, word_ring(signs, size, 0))

    def test_refused(self):
        for signs, size in refused_sizes():
            with self.subTest(signs=signs, size=size):
                assert_refused(self, NoWords, word_net, signs, size)
                assert_refused(self, NoWords, many_word_rings, signs, size)
                assert_refused(self, NoWords, word_ring, signs, size, 0)
                assert_refused(self, NoWords, word_ring_number, signs, size, [0])


class NetOfWords(unittest.TestCase):
    def test_all(self):
        for signs, size in WORD_SIZES:
            with self.subTest(signs=signs, size=size):
                net = word_net(signs, size)
                self.assertEqual(net.places(), signs ** (size - 1))
                expected = [
                    (number_of_word(signs, word[:-1]), number_of_word(signs, word[1:]))
                    for word in itertools.product(range(signs), repeat=size)
                ]
                self.assertEqual(net.roads(), expected)

    def test_written_out(self):
        self.assertEqual(word_net(2, 2).roads(), [(0, 0), (0, 1), (1, 0), (1, 1)])
        self.assertEqual(word_net(3, 1).roads(), [(0, 0), (0, 0), (0, 0)])
        self.assertEqual(word_net(1, 6).roads(), [(0, 0)])
        expected = [(0, 0), (0, 1), (1, 2), (1, 3), (2, 0), (2, 1), (3, 2), (3, 3)]
        self.assertEqual(word_net(2, 3).roads(), expected)

    def test_places_of_size_1(self):
        for signs in range(1, 7):
            self.assertEqual(word_net(signs, 1).places(), 1)


class WordRings(unittest.TestCase):
    def test_how_many(self):
        for signs, size in WORD_SIZES:
            with self.subTest(signs=signs, size=size):
                expected = math.factorial(signs) ** (signs ** (size - 1)) // signs**size
                self.assertEqual(many_word_rings(signs, size), expected)
                self.assertEqual(many_rings(word_net(signs, size)), expected)

    def test_drawn_numbers_there_and_back(self):
        draw = random.Random(10)
        for signs, size in WORD_SIZES:
            net = word_net(signs, size)
            for number in drawn_numbers(draw, many_word_rings(signs, size), 12):
                with self.subTest(signs=signs, size=size, number=number):
                    ring = word_ring(signs, size, number)
                    self.assertTrue(is_word_ring(signs, size, ring))
                    self.assertEqual(ring, [word % signs for word in ring_at(net, number)])
                    self.assertEqual(word_ring_number(signs, size, ring), number)

    def test_every_number_of_some_sizes(self):
        for signs, size in [(1, 1), (1, 6), (2, 3), (2, 4), (2, 5), (3, 1), (3, 2), (4, 1), (5, 1), (6, 1)]:
            many = many_word_rings(signs, size)
            rings = [word_ring(signs, size, number) for number in range(many)]
            with self.subTest(signs=signs, size=size):
                self.assertEqual(len({tuple(ring) for ring in rings}), many)
                self.assertTrue(all(is_word_ring(signs, size, ring) for ring in rings))

    def test_every_list_of_signs(self):
        for signs, size in [(1, 1), (1, 2), (1, 6), (2, 1), (2, 2), (2, 3), (3, 1), (3, 2), (4, 1)]:
            many = many_word_rings(signs, size)
            numbers = []
            for row in itertools.product(range(signs), repeat=signs**size):
                ring = list(row)
                if is_word_ring(signs, size, ring):
                    numbers.append(word_ring_number(signs, size, ring))
                else:
                    assert_refused(self, NoRing, word_ring_number, signs, size, ring)
            with self.subTest(signs=signs, size=size):
                self.assertEqual(sorted(numbers), list(range(many)))

    def test_numbered_as_the_rings_of_the_net(self):
        for signs, size in [(2, 5), (3, 3), (4, 3), (5, 2)]:
            net = word_net(signs, size)
            for number in [0, 1, many_rings(net) // 2, many_rings(net) - 1]:
                ring = word_ring(signs, size, number)
                words = [number_of_word(signs, (ring * 2)[at : at + size]) for at in range(len(ring))]
                at_noughts = words.index(0)
                roads = words[at_noughts:] + words[:at_noughts]
                self.assertEqual(ring_number(net, roads), number)

    def test_word_of_noughts_ends_at_the_first_sign(self):
        self.assertEqual(word_ring(2, 3, 0)[-2:] + word_ring(2, 3, 0)[:1], [0, 0, 0])
        self.assertEqual(word_ring_number(2, 2, [0, 1, 1, 0]), 0)
        for turned in [[0, 0, 1, 1], [1, 0, 0, 1], [1, 1, 0, 0]]:
            assert_refused(self, NoRing, word_ring_number, 2, 2, turned)

    def test_one_sign(self):
        for size in range(1, 7):
            self.assertEqual(many_word_rings(1, size), 1)
            self.assertEqual(word_ring(1, size, 0), [0])
            self.assertEqual(word_ring_number(1, size, [0]), 0)

    def test_numbers_beyond(self):
        for signs, size in WORD_SIZES:
            many = many_word_rings(signs, size)
            for number in [-1, -many, -many - 1, -SIXTY_FIGURES, many, many + 1, 10**59, SIXTY_FIGURES]:
                with self.subTest(signs=signs, size=size, number=number):
                    assert_refused(self, NoNumber, word_ring, signs, size, number)


class NoWordRings(unittest.TestCase):
    def assert_no_word_ring(self, signs, size, ring):
        with self.subTest(signs=signs, size=size, ring=ring):
            self.assertFalse(is_word_ring(signs, size, ring))
            assert_refused(self, NoRing, word_ring_number, signs, size, ring)

    def rings(self):
        return [(signs, size, word_ring(signs, size, many_word_rings(signs, size) // 3)) for signs, size in WORD_SIZES]

    def test_a_sign_beyond(self):
        for signs, size, ring in self.rings():
            for spot in range(len(ring)):
                for sign in [signs, signs + 1, -1, ring[spot] - signs, ring[spot] + signs, SIXTY_FIGURES, -SIXTY_FIGURES]:
                    self.assert_no_word_ring(signs, size, ring[:spot] + [sign] + ring[spot + 1 :])

    def test_every_list_with_signs_beyond(self):
        for signs, size in [(1, 1), (1, 3), (2, 1), (2, 2), (3, 1), (4, 1)]:
            for row in itertools.product(range(-2, signs + 3), repeat=signs**size):
                if not is_word_ring(signs, size, list(row)):
                    assert_refused(self, NoRing, word_ring_number, signs, size, list(row))

    def test_lengths(self):
        for signs, size, ring in self.rings():
            for many in range(101):
                if many != len(ring):
                    self.assert_no_word_ring(signs, size, (ring * 101)[:many])
            self.assert_no_word_ring(signs, size, ring + [0])
            self.assert_no_word_ring(signs, size, ring + ring)

    def test_turned(self):
        for signs, size, ring in self.rings():
            if len(ring) > 1:
                for turn in [1, -1, len(ring) // 2]:
                    self.assert_no_word_ring(signs, size, ring[turn:] + ring[:turn])

    def test_a_word_twice(self):
        for signs, size, ring in self.rings():
            if signs > 1:
                for spot in range(len(ring)):
                    self.assert_no_word_ring(signs, size, ring[:spot] + [(ring[spot] + 1) % signs] + ring[spot + 1 :])
                self.assert_no_word_ring(signs, size, [0] * len(ring))


if __name__ == "__main__":
    unittest.main()
