"""The calls 0 picture, 1 values, 14 sizes, 18 drop, 19 same and 23 pictures."""

import unittest

import plainhouse
from support import (FAR, drop, edges, flat, give, keep, last, lose, noise, pack, packet, picture, pictures, ramp, run,
                     same, sizes, slices, streams, unpack, values, whole)

WRONG_KEYS = (0, 100, -1, -FAR, FAR)


class PictureTest(unittest.TestCase):
    def test_put_and_told(self):
        greys = noise(5, 3, 1)
        self.assertEqual(run(picture(7, 5, 3, greys), values(7)), [[0], [5, 3] + greys])

    def test_edges_of_the_ranges(self):
        for key in (1, 99):
            self.assertEqual(last(picture(key, 2, 2, [0, 1023, 1, 1022])), [0])
        for w, h in ((1, 1), (24, 1), (1, 24), (24, 24)):
            greys = noise(w, h, w)
            self.assertEqual(run(picture(1, w, h, greys), values(1)), [[0], [w, h] + greys])

    def test_out_of_range(self):
        for wrong in (0, 100, -1, -FAR, FAR):
            self.assertEqual(last(picture(wrong, 1, 1, [5])), [-1])
        for wrong in (0, 25, -1, -FAR, FAR):
            self.assertEqual(last(picture(1, wrong, 1, flat(24, 1))), [-1])
            self.assertEqual(last(picture(1, 1, wrong, flat(1, 24))), [-1])
        for wrong in (-1, 1024, -FAR, FAR):
            for place in (0, 3):
                greys = [0, 1, 2, 1023]
                greys[place] = wrong
                self.assertEqual(last(picture(1, 2, 2, greys)), [-1])

    def test_sides_that_would_make_up_the_count(self):
        self.assertEqual(last(picture(1, 25, 1, flat(25, 1))), [-1])
        self.assertEqual(last(picture(1, 1, 25, flat(1, 25))), [-1])
        self.assertEqual(last(picture(1, 0, 5, [])), [-1])
        self.assertEqual(last(picture(1, 5, 0, [])), [-1])
        self.assertEqual(last(picture(1, 0, 0, [])), [-1])
        self.assertEqual(last(picture(1, -1, -4, flat(4, 1))), [-1])

    def test_wrong_count(self):
        for greys in ([], flat(3, 1), flat(5, 1), flat(1700, 1)):
            self.assertEqual(last(picture(1, 2, 2, greys)), [-1])
        self.assertEqual(last(picture(1, 24, 24, flat(575, 1))), [-1])
        self.assertEqual(last(picture(1, 24, 24, flat(577, 1))), [-1])

    def test_seventh(self):
        six = [picture(key, 1, 1, [key]) for key in (1, 5, 9, 50, 98, 99)]
        told = run(*six, picture(2, 1, 1, [2]), values(2), picture(50, 2, 1, [3, 4]), values(50), values(1))
        self.assertEqual(told, [[0]] * 6 + [[-9], [-4], [0], [2, 1, 3, 4], [1, 1, 1]])

    def test_out_of_range_before_seventh(self):
        six = [picture(key, 1, 1, [key]) for key in range(1, 7)]
        self.assertEqual(last(*six, picture(7, 1, 1, [1024])), [-1])
        self.assertEqual(last(*six, picture(100, 1, 1, [1])), [-1])

    def test_refused_changes_nothing(self):
        for wrong in (picture(1, 2, 1, [7, 1024]), picture(1, 2, 1, [7]), picture(1, 0, 1, [7])):
            self.assertEqual(last(picture(1, 1, 1, [5]), wrong, values(1)), [1, 1, 5])

    def test_refused_is_not_counted(self):
        wrong = [picture(key, 1, 1, []) for key in range(1, 9)]
        six = [picture(key, 1, 1, [key]) for key in range(11, 17)]
        self.assertEqual(run(*wrong, *six), [[-1]] * 8 + [[0]] * 6)


class ValuesTest(unittest.TestCase):
    def test_out_of_range(self):
        for wrong in (0, 100, -1, -FAR, FAR):
            self.assertEqual(last(picture(1, 1, 1, [5]), values(wrong)), [-1])

    def test_missing(self):
        for key in (1, 3, 99):
            self.assertEqual(last(picture(2, 1, 1, [5]), values(key)), [-4])

    def test_replaced(self):
        self.assertEqual(last(picture(2, 1, 1, [5]), picture(2, 1, 2, [6, 7]), values(2)), [1, 2, 6, 7])


class SizesTest(unittest.TestCase):
    def test_written_out(self):
        # By mode 0 the number is 0 by k 2; by mode 1 too, since there's no neighbour.
        for mode in range(5):
            self.assertEqual(last(picture(1, 1, 1, [512]), sizes(1, 1, mode)), [15])
        # By mode 0 the numbers are 776 by k 2, in 22 bits, and 776 by k 9, in 11 bits.
        self.assertEqual(last(picture(1, 2, 1, [900, 900]), sizes(1, 1, 0)), [14 + 5])
        # By the left the second is 0 by k 9, in 10 bits.
        self.assertEqual(last(picture(1, 2, 1, [900, 900]), sizes(1, 1, 1)), [14 + 4])

    def packets_by_mode(self, w, h, greys, count, mode):
        """The packets that a picture's slices have by a mode, made by the second reading."""
        house = plainhouse.PlainHouse()
        area = dict(zip(plainhouse.places(w, range(h)), greys))
        stream = {"stamp": 1, "w": w, "h": h, "slices": count, "reference": 0, "reference_stamp": 0, "area": area}
        return [house.sealed(stream, i, mode, None) for i in range(count)]

    def test_as_packets_of_that_mode(self):
        for w, h in ((1, 8), (5, 9), (24, 24)):
            for greys in (flat(w, h), ramp(w, h), noise(w, h, 1), edges(w, h), noise(w, h, 2, 500, 530)):
                for mode in range(5):
                    for count in range(1, 9):
                        made = self.packets_by_mode(w, h, greys, count, mode)
                        told = last(picture(1, w, h, greys), sizes(1, count, mode))
                        self.assertEqual(told, [len(octets) for octets in made], (w, h, mode, count))

    def test_packets_of_these_sizes_are_read(self):
        w, h, greys = 5, 9, noise(5, 9, 3)
        for mode in range(5):
            for count in range(1, 9):
                made = self.packets_by_mode(w, h, greys, count, mode)
                told = run(picture(1, w, h, greys), pack(1, count), *[lose(1, 0)] * count,
                           *[give(1, octets) for octets in made], slices(1), unpack(1))
                self.assertEqual(told[-2:], [[count] + [2] * count, [w, h] + greys])

    def test_the_least_is_what_pack_takes(self):
        for greys in (ramp(7, 8), noise(7, 8, 1), edges(7, 8), noise(7, 8, 2, 500, 530)):
            for count in range(1, 9):
                told = run(picture(1, 7, 8, greys), *[sizes(1, count, mode) for mode in range(5)], pack(1, count),
                           *[packet(1, i) for i in range(count)])
                by_mode = told[1:6]
                self.assertEqual(told[6], [min(each) for each in zip(*by_mode)])
                for i in range(count):
                    mode = told[7 + i][5]
                    self.assertEqual(by_mode[mode][i], told[6][i])
                    self.assertTrue(all(each[i] > told[6][i] for each in by_mode[:mode]))

    def test_edges_of_the_ranges(self):
        base = [picture(1, 1, 24, flat(1, 24)), picture(99, 1, 24, flat(1, 24))]
        for call in (sizes(1, 1, 0), sizes(99, 1, 4), sizes(1, 8, 0), sizes(99, 8, 4)):
            self.assertEqual(len(last(*base, call)), call[2])
        for wrong in (0, 9, -1, -FAR, FAR):
            self.assertEqual(last(*base, sizes(1, wrong, 0)), [-1])
            self.assertEqual(last(*base, sizes(2, wrong, 0)), [-1])
        for wrong in (-1, 5, -FAR, FAR):
            self.assertEqual(last(*base, sizes(1, 1, wrong)), [-1])
            self.assertEqual(last(*base, sizes(2, 1, wrong)), [-1])
        for wrong in WRONG_KEYS:
            self.assertEqual(last(*base, sizes(wrong, 1, 0)), [-1])

    def test_missing_and_more_slices_than_rows(self):
        base = [picture(1, 5, 4, flat(5, 4))]
        self.assertEqual(last(*base, sizes(2, 8, 0)), [-4])
        self.assertEqual(len(last(*base, sizes(1, 4, 0))), 4)
        for count in (5, 6, 7, 8):
            self.assertEqual(last(*base, sizes(1, count, 0)), [-3])
            self.assertEqual(last(*base, sizes(1, count, 5)), [-1])
        self.assertEqual(last(*base, drop(1), sizes(1, 1, 0)), [-4])

    def test_changes_nothing(self):
        base = [picture(1, 5, 4, noise(5, 4, 1)), pack(1, 2), lose(1, 0)]
        for call in (sizes(1, 3, 2), sizes(1, 5, 0), sizes(1, 1, 9), sizes(3, 1, 1)):
            self.assertEqual(whole(*base, call), whole(*base))
        self.assertEqual(run(picture(1, 1, 1, [5]), sizes(1, 1, 1), streams())[-1], [0])


class DropTest(unittest.TestCase):
    def test_not_there_any_more(self):
        told = run(picture(1, 1, 1, [5]), picture(2, 1, 1, [6]), drop(1), values(1), values(2), pictures(), drop(1))
        self.assertEqual(told[2:], [[0], [-4], [1, 1, 6], [1, 2], [-4]])

    def test_put_again(self):
        told = run(picture(1, 1, 1, [5]), drop(1), picture(1, 1, 2, [6, 7]), values(1))
        self.assertEqual(told[-1], [1, 2, 6, 7])

    def test_makes_room(self):
        six = [picture(key, 1, 1, [key]) for key in range(1, 7)]
        told = run(*six, picture(7, 1, 1, [7]), drop(3), picture(7, 1, 1, [7]), picture(3, 1, 1, [3]), pictures())
        self.assertEqual(told[6:], [[-9], [0], [0], [-9], [6, 1, 2, 4, 5, 6, 7]])

    def test_streams_stay(self):
        greys = ramp(3, 4)
        told = run(picture(1, 3, 4, greys), pack(1, 2), drop(1), slices(1), unpack(1), pack(1, 2), streams())
        self.assertEqual(told[2:], [[0], [2, 2, 2], [3, 4] + greys, [-4], [1, 1]])

    def test_reference_values_stay(self):
        greys = noise(3, 4, 1)
        base = [picture(1, 3, 4, greys), picture(2, 3, 4, greys), pack(1)]
        told = [run(*base, *calls, pack(2, 1, 1), packet(2, 0))[-1] for calls in ([], [drop(1)])]
        self.assertEqual(told[0], told[1])
        self.assertEqual(told[0][5], 5)

    def test_refusals(self):
        base = [picture(1, 1, 1, [5]), pack(1), picture(99, 1, 1, [5])]
        for wrong in WRONG_KEYS:
            self.assertEqual(last(*base, drop(wrong)), [-1])
            self.assertEqual(whole(*base, drop(wrong)), whole(*base))
        self.assertEqual(last(*base, drop(2)), [-4])
        self.assertEqual(whole(*base, drop(2)), whole(*base))
        self.assertEqual(last(*base, drop(99)), [0])
        self.assertEqual(last(*base, drop(1)), [0])
        # A stream of a key is no picture of it.
        self.assertEqual(last(*base, drop(1), drop(1)), [-4])


class SameTest(unittest.TestCase):
    def test_alike(self):
        for w, h in ((1, 1), (24, 24), (1, 24), (24, 1), (5, 3)):
            greys = noise(w, h, 1)
            self.assertEqual(last(picture(1, w, h, greys), picture(2, w, h, greys), same(1, 2)), [1])
            self.assertEqual(last(picture(1, w, h, greys), same(1, 1)), [1])

    def test_unlike_at_each_place(self):
        w, h = 4, 3
        for place in range(w * h):
            other = flat(w, h)
            other[place] += 1
            base = [picture(1, w, h, flat(w, h)), picture(99, w, h, other)]
            self.assertEqual(last(*base, same(1, 99)), [0, place % w, place // w])
            self.assertEqual(last(*base, same(99, 1)), [0, place % w, place // w])

    def test_first_of_several(self):
        base = [picture(1, 3, 2, [1, 2, 3, 4, 5, 6]), picture(2, 3, 2, [1, 2, 0, 0, 5, 0])]
        self.assertEqual(last(*base, same(1, 2)), [0, 2, 0])
        # A later row's earlier column comes behind.
        base = [picture(1, 3, 2, [1, 2, 3, 4, 5, 6]), picture(2, 3, 2, [9, 2, 3, 9, 5, 9])]
        self.assertEqual(last(*base, same(1, 2)), [0, 0, 0])
        base = [picture(1, 24, 24, flat(24, 24)), picture(2, 24, 24, flat(24, 24)[:-1] + [1023])]
        self.assertEqual(last(*base, same(1, 2)), [0, 23, 23])

    def test_other_sides(self):
        base = [picture(1, 2, 3, flat(2, 3)), picture(2, 3, 2, flat(3, 2)), picture(3, 2, 4, flat(2, 4)),
                picture(4, 3, 3, flat(3, 3)), picture(5, 6, 1, flat(6, 1))]
        for a in range(1, 6):
            for b in range(1, 6):
                self.assertEqual(last(*base, same(a, b)), [1] if a == b else [-5])

    def test_refusals(self):
        base = [picture(1, 2, 3, flat(2, 3)), pack(1), picture(2, 3, 2, flat(3, 2)), pack(2), drop(2)]
        for wrong in WRONG_KEYS:
            for other in (1, 2, 50, wrong):
                self.assertEqual(last(*base, same(wrong, other)), [-1])
                self.assertEqual(last(*base, same(other, wrong)), [-1])
        for a, b in ((1, 2), (2, 1), (2, 2), (1, 99), (99, 1), (3, 4)):
            self.assertEqual(last(*base, same(a, b)), [-4])

    def test_changes_nothing(self):
        base = [picture(1, 2, 1, [1, 2]), picture(2, 2, 1, [1, 3]), picture(3, 1, 2, [1, 3]), pack(1)]
        for call in (same(1, 2), same(1, 1), same(1, 3), same(1, 4), same(0, 1)):
            self.assertEqual(whole(*base, call), whole(*base))


class PicturesTest(unittest.TestCase):
    def test_rising(self):
        self.assertEqual(last(pictures()), [0])
        for order in ((1, 2, 3), (3, 2, 1), (99, 1, 50, 7, 10, 2)):
            told = last(*[picture(key, 1, 1, [key]) for key in order], pictures())
            self.assertEqual(told, [len(order)] + sorted(order))

    def test_replaced_dropped_and_kept(self):
        base = [picture(key, 1, 1, [key]) for key in (40, 30, 20)]
        self.assertEqual(last(*base, picture(40, 1, 1, [1]), pictures()), [3, 20, 30, 40])
        self.assertEqual(last(*base, drop(20), picture(20, 2, 1, [1, 2]), pictures()), [3, 20, 30, 40])
        self.assertEqual(last(*base, drop(30), pictures()), [2, 20, 40])
        self.assertEqual(last(*base, pack(40), keep(40, 25), pictures()), [4, 20, 25, 30, 40])
        self.assertEqual(last(*base, pack(40), keep(40, 30), pictures()), [3, 20, 30, 40])
        self.assertEqual(last(*base, drop(20), drop(30), drop(40), pictures()), [0])

    def test_refused_ones_and_streams_are_not_counted(self):
        told = last(picture(5, 1, 1, [5]), pack(5), drop(5), picture(6, 1, 1, [1024]), picture(100, 1, 1, [1]),
                    pictures())
        self.assertEqual(told, [0])


if __name__ == "__main__":
    unittest.main()
