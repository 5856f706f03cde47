"""The three promises."""

import itertools
import random
import unittest

from support import (answers, burst, copy, drop, edges, errors, flat, flip, give, joined, keep, last, lose, merge, near,
                     noise, pack, packet, packets, picture, ramp, run, same, slices, split, turn, twice, unpack)


def contents(w, h):
    """Pictures of all kinds of content."""
    return [flat(w, h), flat(w, h, 0), flat(w, h, 1023), ramp(w, h), ramp(w, h, 1, 0), ramp(w, h, 40, 900, 1000),
            noise(w, h, 1), noise(w, h, 2, 500, 540), noise(w, h, 3, 0, 3), edges(w, h), edges(w, h, 0, 1023)]


class FirstPromiseTest(unittest.TestCase):
    """What's packed is read as the very same values."""

    def check(self, w, h, greys, count):
        by_itself = run(picture(1, w, h, greys), pack(1, count), slices(1), unpack(1), errors(1))
        self.assertEqual(by_itself[2:], [[count] + [2] * count, [w, h] + greys, [0, 0]])

    def check_with_reference(self, w, h, greys, other, count):
        told = run(picture(1, w, h, other), picture(2, w, h, greys), pack(1, count), pack(2, count, 1),
                   slices(2), unpack(2), unpack(1))
        self.assertEqual(told[4:], [[count] + [2] * count, [w, h] + greys, [w, h] + other])

    def test_all_kinds_of_content(self):
        for w, h in ((1, 1), (1, 24), (24, 1), (2, 3), (7, 8), (24, 24)):
            for greys in contents(w, h):
                for count in range(1, min(8, h) + 1):
                    self.check(w, h, greys, count)

    def test_all_sides(self):
        for w in range(1, 25):
            for h in range(1, 25):
                self.check(w, h, noise(w, h, w * h, 0, (1 << (w + h) % 11) - 1), 1 + (w + h) % min(8, h))

    def test_every_count_of_slices_by_every_height(self):
        for h in range(1, 25):
            for count in range(1, min(8, h) + 1):
                self.check(3, h, ramp(3, h, 200, 31), count)
                self.check_with_reference(3, h, near(ramp(3, h), 1), ramp(3, h), count)

    def test_with_a_reference(self):
        for w, h in ((1, 1), (1, 9), (9, 1), (5, 8), (24, 24)):
            for greys in contents(w, h):
                for count in {1, min(h, 3), min(h, 8)}:
                    self.check_with_reference(w, h, greys, near(greys, 4), count)
                    self.check_with_reference(w, h, greys, noise(w, h, 6), count)

    def test_chain_of_references(self):
        w, h = 6, 5
        pictures = [noise(w, h, 1)]
        for seed in range(5):
            pictures.append(near(pictures[-1], seed))
        calls = [picture(key, w, h, greys) for key, greys in enumerate(pictures, start=1)]
        calls += [pack(key, 5, key - 1) for key in range(1, 7)]
        told = run(*calls, *[unpack(key) for key in range(1, 7)])
        self.assertEqual(told[-6:], [[w, h] + greys for greys in pictures])

    def test_copied_kept_and_packed_again(self):
        for w, h in ((1, 1), (7, 8), (24, 24)):
            for greys in contents(w, h):
                count = min(8, h)
                told = run(picture(1, w, h, greys), pack(1, count), copy(1, 9), keep(9, 5), drop(1), pack(5, count, 9),
                           errors(5), keep(5, 1), same(1, 5), unpack(9), unpack(5))
                self.assertEqual(told[6:], [[0, 0], [0], [1], [w, h] + greys, [w, h] + greys])

    def test_largest_packet_can_be_given(self):
        # However badly values are predicted, the packet stays within what give takes.
        w = h = 24
        greys = noise(w, h, 5)
        told = run(picture(1, w, h, greys), pack(1), packet(1, 0), lose(1, 0))
        self.assertLessEqual(told[1][0], 1600)
        back = last(picture(1, w, h, greys), pack(1), lose(1, 0), give(1, told[2][1:]), unpack(1))
        self.assertEqual(back, [w, h] + greys)


class SecondPromiseTest(unittest.TestCase):
    """What was hit isn't taken; what's read has the values that were packed."""

    def setUp(self):
        self.greys = noise(2, 4, 1)
        self.base = [picture(1, 2, 4, self.greys), pack(1, 2)]
        self.size = last(*self.base)[0]

    def states(self, hits):
        """The slices after each of many sets of hits on a packet of its own house."""
        return [last(*self.base, *hit, slices(1)) for hit in hits]

    def test_every_flip(self):
        hits = [[flip(1, 0, byte, bit)] for byte in range(self.size) for bit in range(8)]
        for told in self.states(hits):
            self.assertEqual(told, [2, 0, 2])

    def test_two_flips(self):
        places = [(byte, bit) for byte in range(self.size) for bit in range(8)]
        for one, other in itertools.combinations(places, 2):
            if sum(one) % 4 == 0 or sum(other) % 5 == 0:
                told = last(*self.base, flip(1, 0, *one), flip(1, 0, *other), slices(1))
                self.assertEqual(told, [2, 0, 2], (one, other))

    def test_three_flips(self):
        source = random.Random(3)
        places = [(byte, bit) for byte in range(self.size) for bit in range(8)]
        for attempt in range(3000):
            three = source.sample(places, 3)
            self.assertEqual(last(*self.base, *[flip(1, 0, *place) for place in three], slices(1)), [2, 0, 2], three)

    def test_three_flips_of_which_two_cancel(self):
        told = last(*self.base, flip(1, 0, 3, 1), flip(1, 0, 12, 7), flip(1, 0, 3, 1), slices(1))
        self.assertEqual(told, [2, 0, 2])

    def test_bursts(self):
        source = random.Random(4)
        patterns = [1, 3, 2147483648, 2147483649, 4294967295, 517762881] + [source.randint(1, 4294967295) for each in range(6)]
        for bit in range(8 * self.size):
            for pattern in patterns:
                told = run(*self.base, burst(1, 0, bit, pattern), slices(1), packet(1, 0))
                turned = told[-1] != run(*self.base, packet(1, 0))[-1]
                self.assertEqual(told[-2], [2, 0, 2] if turned else [2, 2, 2], (bit, pattern))

    def test_large_packets(self):
        greys = noise(24, 24, 9)
        base = [picture(1, 24, 24, greys), pack(1)]
        size = last(*base)[0]
        source = random.Random(5)
        for attempt in range(100):
            flips = [flip(1, 0, source.randrange(size), source.randrange(8)) for each in range(1 + attempt % 3)]
            if len(set(map(tuple, flips))) == len(flips):
                self.assertEqual(last(*base, *flips, slices(1)), [1, 0])
            pattern = source.getrandbits(32) | 1
            self.assertEqual(last(*base, burst(1, 0, source.randrange(8 * size), pattern), slices(1)), [1, 0])

    def test_doubled_before_it_was_hit(self):
        for hit in (flip(1, 0, 11, 5), burst(1, 0, 70, 999)):
            told = run(*self.base, twice(1, 0), hit, slices(1), unpack(1))
            self.assertEqual(told[-2:], [[2, 2, 2], [2, 4] + self.greys])

    def test_whatever_was_lost_doubled_turned_and_hit(self):
        source = random.Random(6)
        w, h = 4, 6
        first = noise(w, h, 7)
        second = near(first, 8)
        base = [picture(1, w, h, first), picture(2, w, h, second), pack(1, 3), pack(2, 3, 1)]
        for attempt in range(300):
            calls = list(base)
            for step in range(source.randrange(25)):
                calls.append(self.mishap(source))
            told = run(*calls, slices(1), unpack(1), slices(2), unpack(2))
            for states, unpacked, greys in ((told[-4], told[-3], first), (told[-2], told[-1], second)):
                for i in range(3):
                    if states[1 + i] == 2:
                        self.assertEqual(unpacked[2 + 8 * i:10 + 8 * i], greys[8 * i:8 * i + 8])

    def test_whatever_was_copied_and_merged_besides(self):
        source = random.Random(7)
        w, h = 4, 6
        first = noise(w, h, 7)
        second = near(first, 8)
        # Streams 1 and 3 are of the first picture, 2 and 4 of the second.
        base = [picture(1, w, h, first), picture(2, w, h, second), pack(1, 3), pack(2, 3, 1), copy(1, 3), copy(2, 4)]
        twins = {1: 3, 3: 1, 2: 4, 4: 2}
        for attempt in range(300):
            calls = list(base)
            for step in range(source.randrange(60)):
                key = source.randint(1, 4)
                spread = (self.mishap(source, 4), self.mishap(source, 4), merge(key, twins[key]),
                          merge(key, source.randint(1, 4)), copy(key, twins[key]))
                calls.append(source.choice(spread))
            told = run(*calls, *[look(key) for key in twins for look in (slices, unpack, errors)])[len(calls):]
            for place, key in enumerate(twins):
                states, unpacked, off = told[3 * place:3 * place + 3]
                greys = first if key in (1, 3) else second
                unread = [i for i in range(3) if states[1 + i] != 2]
                for i in range(3):
                    if i not in unread:
                        self.assertEqual(unpacked[2 + 8 * i:10 + 8 * i], greys[8 * i:8 * i + 8])
                self.assertLessEqual(off[0], 8 * len(unread))

    def mishap(self, source, keys=2):
        key, i = source.randint(1, keys), source.randrange(5)
        kind = source.randrange(6)
        if kind == 0:
            return lose(key, i)
        if kind == 1:
            return turn(key)
        if kind == 2:
            return flip(key, i, source.randrange(30), source.randrange(8))
        if kind == 3:
            return burst(key, i, source.randrange(200), source.randint(1, 4294967295))
        return twice(key, i)

    def test_order_does_not_matter(self):
        octets = [answer[1:] for answer in run(*self.base, packet(1, 0), packet(1, 1))[-2:]]
        for order in itertools.permutations(octets + octets[:1]):
            told = run(*self.base, lose(1, 0), lose(1, 0), *[give(1, each) for each in order], slices(1), unpack(1))
            self.assertEqual(told[-2:], [[2, 2, 2], [2, 4] + self.greys])


class ThirdPromiseTest(unittest.TestCase):
    """A slice that was hit or lost makes no other unreadable but those packed by difference from it."""

    def setUp(self):
        self.w, self.h, self.count = 3, 11, 5
        self.greys = {1: noise(3, 11, 1)}
        self.greys[2] = near(self.greys[1], 2)
        self.greys[3] = near(self.greys[2], 3)
        self.greys[4] = noise(3, 11, 4)
        self.base = [picture(key, 3, 11, greys) for key, greys in self.greys.items()]
        self.base += [pack(1, 5), pack(2, 5, 1), pack(3, 5, 2), pack(4, 5)]

    def rows(self, key, numbers):
        return [grey for y in numbers for grey in self.greys[key][3 * y:3 * y + 3]]

    def test_others_stay_readable(self):
        for i in range(self.count):
            hits = (lose(1, i), flip(1, i, 0, 0), flip(1, i, 13, 7), burst(1, i, 33, 4294967295))
            for hit in hits:
                told = run(*self.base, hit, *[slices(key) for key in (1, 2, 3, 4)], unpack(1), unpack(4))
                states = [2] * i + [0] + [2] * (4 - i)
                waiting = [2] * i + [1] + [2] * (4 - i)
                self.assertEqual(told[-6], [5] + states)
                self.assertEqual(told[-5:-3], [[5] + waiting] * 2)
                self.assertEqual(told[-3], [5] + [2] * 5)
                self.assertEqual(told[-1], [3, 11] + self.greys[4])
                for y in range(self.h):
                    if not i * 11 // 5 <= y < (i + 1) * 11 // 5:
                        self.assertEqual(told[-2][2 + 3 * y:5 + 3 * y], self.rows(1, [y]))

    def test_read_again_once_the_lost_slice_is_merged(self):
        for i in range(self.count):
            told = run(*self.base, copy(1, 9), lose(1, i), errors(3), errors(4), merge(1, 9),
                       *[errors(key) for key in (1, 2, 3, 4)])
            self.assertGreater(told[-7][0], 0)
            self.assertEqual(told[-6:], [[0, 0], [5]] + [[0, 0]] * 4)

    def test_a_hit_copy_leaves_the_others(self):
        for i in range(self.count):
            told = run(*self.base, copy(1, 9), lose(9, i), *[slices(key) for key in (9, 1, 2, 3, 4)])
            self.assertEqual(told[-5:], [[5] + [2] * i + [0] + [2] * (4 - i)] + [[5] + [2] * 5] * 4)

    def test_a_slice_by_another_mode_does_not_wait(self):
        # The middle slice is flat: by its difference it takes no fewer bytes than by itself.
        first = noise(4, 3, 1)
        second = near(first[:4], 2) + [512] * 4 + near(first[8:], 3)
        base = [picture(1, 4, 3, first), picture(2, 4, 3, second), pack(1, 3), pack(2, 3, 1)]
        self.assertEqual([last(*base, packet(2, i))[5] for i in range(3)], [5, 0, 5])
        told = run(*base, *[lose(1, 0)] * 3, slices(1), slices(2), unpack(2))
        self.assertEqual(told[-3:], [[3, 0, 0, 0], [3, 1, 2, 1], [4, 3] + [512] * 12])

    def test_middle_of_a_chain(self):
        told = run(*self.base, lose(2, 3), slices(1), slices(2), slices(3), unpack(3))
        self.assertEqual(told[-4:-1], [[5, 2, 2, 2, 2, 2], [5, 2, 2, 2, 0, 2], [5, 2, 2, 2, 1, 2]])
        # Slice 3 has the rows 6 and 7.
        halves = [(a + b) // 2 for a, b in zip(self.rows(3, [5]), self.rows(3, [8]))]
        self.assertEqual(told[-1], [3, 11] + self.rows(3, range(6)) + halves * 2 + self.rows(3, range(8, 11)))

    def test_made_up_rows_are_not_made_of_made_up_ones(self):
        told = run(*self.base, lose(1, 1), lose(1, 1), lose(1, 1), slices(1), unpack(1))
        self.assertEqual(told[-2], [5, 2, 0, 0, 0, 2])
        halves = [(a + b) // 2 for a, b in zip(self.rows(1, [1]), self.rows(1, [8]))]
        self.assertEqual(told[-1], [3, 11] + self.rows(1, [0, 1]) + halves * 6 + self.rows(1, [8, 9, 10]))

    def test_none_read(self):
        told = run(*self.base, *[lose(1, 0)] * 5, slices(1), slices(3), unpack(1), unpack(3))
        self.assertEqual(told[-4:], [[5] + [0] * 5, [5] + [1] * 5] + [[3, 11] + [512] * 33] * 2)


class WholeLineTest(unittest.TestCase):
    def test_long_line(self):
        calls = [picture(1, 24, 24, noise(24, 24, 1)), pack(1, 8)] + [slices(1), packets(1)] * 199
        told = split(answers(joined(calls)), 400)
        self.assertEqual(told[-2], [8] + [2] * 8)


if __name__ == "__main__":
    unittest.main()
