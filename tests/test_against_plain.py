"""Lines of calls drawn by lot, answered as the second reading of the document answers them."""

import random
import unittest

from packedframes.house import answers
from plainhouse import plain_answers
from support import (FAR, burst, check, code, copy, drop, edges, errors, flat, flip, give, joined, keep, lose, merge,
                     near, noise, pack, packet, packets, picture, pictures, predict, ramp, same, seal, sizes, slices,
                     split, streams, turn, twice, unpack, values)

KEYS = (1, 2, 3)
MORE_KEYS = (1, 2, 3, 4, 5, 6, 7, 99)
WRONG = (-FAR, -1, 0, 4, 9, 25, 99, 100, 256, 1024, 4294967296, FAR)


class Drawer:
    """Draws calls that mostly go through, and now and then one that's off."""

    def __init__(self, seed):
        self.source = random.Random(seed)
        self.w = self.source.choice((1, 2, 3, 5, 9))
        self.h = self.source.choice((1, 2, 3, 4, 8, 11))
        self.count = self.source.randint(1, min(8, self.h))
        self.greys = noise(self.w, self.h, seed)
        # Now and then so many keys that a house is full.
        self.keys = MORE_KEYS if self.source.randrange(6) == 0 else KEYS

    def key(self):
        return self.source.choice(self.keys)

    def content(self):
        seed = self.source.randrange(1000)
        kinds = (flat, ramp, edges, lambda w, h: noise(w, h, seed), lambda w, h: near(self.greys, seed),
                 lambda w, h: near(self.greys, seed, 9))
        return self.source.choice(kinds)(self.w, self.h)

    def calls(self):
        """The ways to draw a call, the more useful ones oftener."""
        source = self.source
        i = source.choice((0, 0, 1, 1, 2, 3, 5, 8, 13, 19))
        reference = source.choice((0,) + KEYS)
        grey = source.choice((0, 3, 511, 512, 1023))
        return (
            lambda: picture(self.key(), self.w, self.h, self.content()),
            lambda: values(self.key()),
            lambda: pack(self.key(), self.count, reference),
            lambda: pack(self.key(), self.count, reference),
            lambda: packet(self.key(), i),
            lambda: packets(self.key()),
            lambda: flip(self.key(), i, source.randrange(40), source.randrange(8)),
            lambda: burst(self.key(), i, source.randrange(300), source.randint(1, 4294967295)),
            lambda: lose(self.key(), i),
            lambda: twice(self.key(), i),
            lambda: twice(self.key(), i),
            lambda: turn(self.key()),
            lambda: give(self.key(), self.forged()),
            lambda: slices(self.key()),
            lambda: unpack(self.key()),
            lambda: errors(self.key()),
            lambda: sizes(self.key(), source.choice((self.count, self.h, self.h + 1, 1)), source.randrange(5)),
            lambda: copy(self.key(), self.key()),
            lambda: copy(self.key(), self.key()),
            lambda: merge(self.key(), self.key()),
            lambda: merge(self.key(), self.key()),
            lambda: keep(self.key(), self.key()),
            lambda: drop(self.key()),
            lambda: same(self.key(), self.key()),
            lambda: check([source.randrange(256) for each in range(source.choice((0, 1, 9)))]),
            lambda: code(source.randrange(11), source.randrange(1024)),
            lambda: predict(source.randrange(5), grey, source.randrange(1024), min(1023, grey + source.randrange(20))),
            pictures,
            streams,
            lambda: picture(self.key(), self.h, self.w, flat(self.h, self.w)),
        )

    def forged(self):
        """Bytes that come near to a packet: sealed, with a likely head, and by lot behind it."""
        source = self.source
        reference = source.choice((0,) + KEYS)
        head = [0, source.randint(1, 6), source.randrange(self.count), self.count, source.randrange(7), self.w,
                self.h, reference, 0, source.randint(1, 5) if reference else 0]
        size = source.randrange(1 + self.w * self.h // 3)
        octets = seal(head + [source.choice((0, 0, 64, source.randrange(256))) for each in range(size)])
        return octets + [0] * source.choice((0, 0, 0, 1))

    def call(self):
        call = self.source.choice(self.calls())()
        places = [at for at in range(1, len(call)) if at != self.row_place(call)]
        if places and self.source.randrange(12) == 0:
            call[self.source.choice(places)] = self.source.choice(WRONG)
        return call

    def row_place(self, call):
        return {0: 4, 10: 2, 20: 1}.get(call[0], 0)

    def start(self):
        start = [picture(key, self.w, self.h, self.content()) for key in KEYS]
        start += [pack(1, self.count), pack(2, self.count, 1), pack(3, self.count, 2)]
        line = start[:self.source.randrange(7)]
        if self.source.randrange(8) == 0:
            line += [twice(1, 0)] * 19
        if self.source.randrange(8) == 0:
            # Two streams of one stamp, of which one lacks its first slice and has hardly room.
            line += [copy(1, 2), lose(1, 0)] + [give(1, [])] * 16 + [merge(1, 2)]
        if self.keys == MORE_KEYS:
            line += [picture(key, self.w, self.h, self.content()) for key in (1, 2, 4, 5, 6, 7)]
            line += [pack(1, self.count)] + [copy(1, key) for key in (2, 3, 4, 5, 99)]
        return line

    def line(self, size=0):
        """A line of so many calls, or of some number by lot, that ends by looking at what there is then."""
        end = [look(key) for key in KEYS for look in (packets, slices, unpack)] + [pictures(), streams()]
        line = self.start()
        middle = size - len(line) - len(end) if size else self.source.randint(1, 60)
        return line + [self.call() for each in range(middle)] + end


class AgainstPlainTest(unittest.TestCase):
    def compare(self, line, name):
        calls = joined(line)
        told, asked = split(answers(calls), len(line)), split(plain_answers(calls), len(line))
        for place, call in enumerate(line):
            self.assertEqual(told[place], asked[place], (name, place, call[:8]))

    def test_lines(self):
        for seed in range(500):
            self.compare(Drawer(seed).line(), seed)

    def test_lines_of_400_calls(self):
        kinds = set()
        for seed in range(1000, 1030):
            drawer = Drawer(seed)
            drawer.w, drawer.h, drawer.count = [(1, 1, 1), (2, 3, 3), (4, 2, 1)][seed % 3]
            drawer.greys = noise(drawer.w, drawer.h, seed)
            line = drawer.line(400)
            calls = joined(line)
            self.assertEqual(len(line), 400)
            self.assertLessEqual(len(calls), 16000)
            kinds.update(call[0] for call in line)
            kept = list(calls)
            first = answers(calls)
            self.assertEqual(calls, kept)
            self.assertEqual(answers(calls), first)
            self.compare(line, seed)
        self.assertEqual(kinds, set(range(25)))

    def test_lines_reach_what_matters(self):
        """The lines drawn meet every call, every refusal, every state of a slice, and what else may be answered."""
        met = set()
        for seed in range(500):
            line = Drawer(seed).line()
            told = split(answers(joined(line)), len(line))
            for call, answer in zip(line, told):
                if call[0] == 11 and answer[0] > 0:
                    met.update(("state", state) for state in answer[1:])
                if call[0] in (13, 19) and answer[0] >= 0:
                    met.add((call[0], "told", answer[0] > 0))
                met.add((call[0], answer[0] if answer[0] < 0 else 0))
        asked = {("state", state) for state in (0, 1, 2)} | {(number, 0) for number in range(25)}
        asked |= {(number, "told", one) for number in (13, 19) for one in (False, True)}
        asked |= {(number, -1) for number in range(23)} | {(number, -4) for number in range(1, 20)}
        asked |= {(2, -3), (2, -5), (2, -7), (5, -3), (5, -8), (6, -3), (6, -8), (8, -9), (10, -9), (0, -9), (2, -9),
                  (14, -3), (15, -9), (15, -7), (16, -9), (17, -9), (19, -5)}
        self.assertEqual(asked - met, set())

    def test_merges_that_matter(self):
        """Lines about a few copies of one stream, so that merges put packets there that are then read."""
        put = 0
        for seed in range(200):
            source = random.Random(seed)
            w, h, count = source.choice(((2, 3, 3), (3, 5, 2), (1, 4, 4)))
            greys = noise(w, h, seed)
            line = [picture(1, w, h, greys), picture(2, w, h, near(greys, seed)), pack(1, count), pack(2, count, 1),
                    copy(1, 3), copy(2, 4), copy(2, 5)]
            for each in range(source.randint(5, 40)):
                key, other, i = source.randint(1, 5), source.randint(1, 5), source.randrange(5)
                line.append(source.choice((
                    lose(key, i), lose(key, i), flip(key, i, source.randrange(20), 3), burst(key, i, 85, 77),
                    twice(key, i), turn(key), merge(key, other), merge(key, other), copy(key, other), errors(key),
                    slices(key), keep(key, other), give(key, seal([0, 1, i % count, count, 1, w, h, 0, 0, 0, 0])))))
            line += [look(key) for key in range(1, 6) for look in (packets, slices, unpack, errors)]
            self.compare(line, seed)
            told = split(answers(joined(line)), len(line))
            for place, call in enumerate(line):
                if call[0] == 16 and told[place][0] >= 0:
                    before = split(answers(joined(line[:place] + [packets(call[1])])), place + 1)[-1][0]
                    put += told[place][0] > before
        self.assertGreater(put, 100)

    def test_large_pictures(self):
        for seed, greys in enumerate((flat(24, 24), ramp(24, 24), edges(24, 24), noise(24, 24, 1),
                                      noise(24, 24, 2, 505, 530))):
            line = [picture(1, 24, 24, greys), picture(2, 24, 24, near(greys, seed)), pack(1, 5), pack(2, 5, 1),
                    lose(1, seed), slices(2), unpack(1), unpack(2)] + [packet(2, i) for i in range(5)]
            line += [sizes(2, 5, mode) for mode in range(5)]
            line += [errors(1), errors(2), keep(2, 3), same(2, 3), copy(2, 4), merge(4, 2), packets(4), errors(4)]
            self.compare(line, seed)


if __name__ == "__main__":
    unittest.main()
