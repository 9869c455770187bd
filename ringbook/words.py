"""Rings of signs in which each word of a size stands just once."""

from ringbook.errors import NoRing, NoWords
from ringbook.nets import Net
from ringbook.rings import many_rings, ring_at, ring_number

MOST_SIGNS = 6
MOST_SIZE = 6
MOST_WORDS = 64


def many_words(signs, size):
    many = 1
    for spot in range(size):
        many *= signs
    return many


def check_words(signs, size):
    # The bounds come first: with a great size the words could not be counted.
    if not 1 <= signs <= MOST_SIGNS:
        raise NoWords(f"there are 1 to {MOST_SIGNS} signs")
    if not 1 <= size <= MOST_SIZE:
        raise NoWords(f"a word has a size of 1 to {MOST_SIZE}")
    if many_words(signs, size) > MOST_WORDS:
        raise NoWords(f"there are at most {MOST_WORDS} words")


def word_net(signs, size):
    check_words(signs, size)
    places = many_words(signs, size - 1)
    return Net(places, [(word // signs, word % places) for word in range(many_words(signs, size))])


def many_word_rings(signs, size):
    return many_rings(word_net(signs, size))


def word_ring(signs, size, number):
    return [word % signs for word in ring_at(word_net(signs, size), number)]


def word_ending_at(signs, size, ring, last):
    word = 0
    for spot in range(last - size + 1, last + 1):
        word = word * signs + ring[spot % len(ring)]
    return word


def word_ring_number(signs, size, ring):
    net = word_net(signs, size)
    # Signs beyond make no words, even where their figures add up to a word's number.
    if not all([0 <= sign < signs for sign in ring]):
        raise NoRing("a word ring holds the signs alone")
    return ring_number(net, [word_ending_at(signs, size, ring, last) for last in range(len(ring))])
