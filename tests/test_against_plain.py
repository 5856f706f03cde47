"""Lines of calls drawn by lot, answered as the second reading of the document answers them."""

import random
import unittest

from packedframes.house import answers
from plainhouse import plain_answers
from support import (FAR, burst, edges, flat, flip, give, lose, near, noise, pack, packet, packets, picture, ramp, seal,
                     slices, split, turn, twice, unpack, values)

KEYS = (1, 2, 3)
WRONG = (-FAR, -1, 0, 4, 9, 25, 99, 100, 256, 1024, 4294967296, FAR)


class Drawer:
    """Draws calls that mostly go through, and now and then one that's off."""

    def __init__(self, seed):
        self.source = random.Random(seed)
        self.w = self.source.choice((1, 2, 3, 5, 9))
        self.h = self.source.choice((1, 2, 3, 4, 8, 11))
        self.count = self.source.randint(1, min(8, self.h))
        self.greys = noise(self.w, self.h, seed)

    def key(self):
        return self.source.choice(KEYS)

    def content(self):
        seed = self.source.randrange(1000)
        kinds = (flat, ramp, edges, lambda w, h: noise(w, h, seed), lambda w, h: near(self.greys, seed),
                 lambda w, h: near(self.greys, seed, 9))
        return self.source.choice(kinds)(self.w, self.h)

    def calls(self):
        """The ways to draw a call, the more useful ones oftener."""
        source = self.source
        i = source.choice((0, 0, 1, 1, 2, 3, 5, 8, 13, 19))
        reference = source.choice((0,) + KEYS)
        return (
            lambda: picture(self.key(), self.w, self.h, self.content()),
            lambda: values(self.key()),
            lambda: pack(self.key(), self.count, reference),
            lambda: pack(self.key(), self.count, reference),
            lambda: packet(self.key(), i),
            lambda: packets(self.key()),
            lambda: flip(self.key(), i, source.randrange(40), source.randrange(8)),
            lambda: burst(self.key(), i, source.randrange(300), source.randint(1, 4294967295)),
            lambda: lose(self.key(), i),
            lambda: twice(self.key(), i),
            lambda: twice(self.key(), i),
            lambda: turn(self.key()),
            lambda: give(self.key(), self.forged()),
            lambda: slices(self.key()),
            lambda: unpack(self.key()),
        )

    def forged(self):
        """Bytes that come near to a packet: sealed, with a likely head, and by lot behind it."""
        source = self.source
        reference = source.choice((0,) + KEYS)
        head = [0, source.randint(1, 6), source.randrange(self.count), self.count, source.randrange(7), self.w,
                self.h, reference, 0, source.randint(1, 5) if reference else 0]
        size = source.randrange(1 + self.w * self.h // 3)
        octets = seal(head + [source.choice((0, 0, 64, source.randrange(256))) for each in range(size)])
        return octets + [0] * source.choice((0, 0, 0, 1))

    def call(self):
        call = self.source.choice(self.calls())()
        if self.source.randrange(12) == 0:
            place = self.source.choice([at for at in range(1, len(call)) if at != self.row_place(call)])
            call[place] = self.source.choice(WRONG)
        return call

    def row_place(self, call):
        return {0: 4, 10: 2}.get(call[0], 0)

    def line(self):
        start = [picture(key, self.w, self.h, self.content()) for key in KEYS]
        start += [pack(1, self.count), pack(2, self.count, 1), pack(3, self.count, 2)]
        line = start[:self.source.randrange(7)]
        if self.source.randrange(8) == 0:
            line += [twice(1, 0)] * 19
        line += [self.call() for each in range(self.source.randint(1, 60))]
        return line + [look(key) for key in KEYS for look in (packets, slices, unpack)]


class AgainstPlainTest(unittest.TestCase):
    def test_lines(self):
        for seed in range(500):
            line = Drawer(seed).line()
            calls = [number for call in line for number in call]
            told, asked = split(answers(calls), len(line)), split(plain_answers(calls), len(line))
            for place, call in enumerate(line):
                self.assertEqual(told[place], asked[place], (seed, place, call[:8]))

    def test_lines_reach_what_matters(self):
        """The lines drawn meet every call, every refusal that can be met, and every state of a slice."""
        met = set()
        for seed in range(500):
            line = Drawer(seed).line()
            told = split(answers([number for call in line for number in call]), len(line))
            for call, answer in zip(line, told):
                if call[0] == 11 and answer[0] > 0:
                    met.update(("state", state) for state in answer[1:])
                met.add((call[0], answer[0] if answer[0] < 0 else 0))
        asked = {("state", state) for state in (0, 1, 2)} | {(number, 0) for number in range(13)}
        asked |= {(number, -1) for number in range(13)} | {(number, -4) for number in range(1, 13)}
        asked |= {(2, -3), (2, -5), (2, -7), (5, -3), (5, -8), (6, -3), (6, -8), (8, -9), (10, -9)}
        self.assertEqual(asked - met, set())

    def test_large_pictures(self):
        for seed, greys in enumerate((flat(24, 24), ramp(24, 24), edges(24, 24), noise(24, 24, 1),
                                      noise(24, 24, 2, 505, 530))):
            line = [picture(1, 24, 24, greys), picture(2, 24, 24, near(greys, seed)), pack(1, 5), pack(2, 5, 1),
                    lose(1, seed), slices(2), unpack(1), unpack(2)] + [packet(2, i) for i in range(5)]
            calls = [number for call in line for number in call]
            self.assertEqual(answers(calls), plain_answers(calls))


if __name__ == "__main__":
    unittest.main()
