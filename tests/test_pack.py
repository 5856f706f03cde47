"""The call 2 pack."""

import unittest

from support import (FAR, copy, drop, flat, last, lose, near, noise, pack, packet, packets, picture, ramp, run, seal,
                     slices, streams, unpack)


class PackTest(unittest.TestCase):
    def test_packet_written_out(self):
        told = run(picture(9, 1, 1, [513]), pack(9), packet(9, 0))
        self.assertEqual(told, [[0], [15], [15] + seal([0, 1, 0, 1, 0, 1, 1, 0, 0, 0, 64])])

    def test_packet_by_reference_written_out(self):
        told = run(picture(3, 1, 2, [900, 100]), picture(4, 1, 2, [900, 99]), pack(3), pack(4, 1, 3), packet(4, 0))
        # The numbers are 0 by k 2 and 1 by k 1.
        self.assertEqual(told[-1], [15] + seal([0, 2, 0, 1, 5, 1, 2, 3, 0, 1, 0b00001000]))

    def test_rows_of_slices(self):
        told = run(picture(1, 1, 5, [512, 0, 512, 1, 512]), pack(1, 3), packet(1, 0), packet(1, 1), packet(1, 2))
        heads = [[0, 1, i, 3, mode, 1, 5, 0, 0, 0] for i, mode in ((0, 0), (1, 0), (2, 0))]
        self.assertEqual(told[2], [15] + seal(heads[0] + [0]))
        for i in (1, 2):
            self.assertEqual(told[2 + i][1:9], heads[i][:8])
        self.assertEqual(told[1], [answer[0] for answer in told[2:]])

    def test_lowest_of_equal_modes(self):
        self.assertEqual(last(picture(1, 3, 1, [512, 512, 512]), pack(1), packet(1, 0))[5], 0)
        # By mode 0 these three have 44 bits, by mode 1 only 42: as bytes that's equal.
        self.assertEqual(last(picture(1, 3, 1, [900] * 3), pack(1), packet(1, 0))[5], 0)
        # In a single row the modes 1 to 4 are all equal.
        self.assertEqual(last(picture(1, 24, 1, [900] * 24), pack(1), packet(1, 0))[5], 1)

    def test_each_mode_is_chosen_where_it_is_best(self):
        w, h = 12, 12
        rows = noise(1, h, 1)
        columns = noise(w, 1, 2)
        pictures = {
            0: noise(w, h, 3, 500, 524),
            1: [grey for grey in rows for x in range(w)],
            2: columns * h,
            3: [(rows[y] + columns[x]) // 2 for y in range(h) for x in range(w)],
            4: [1000 if x > 5 or y > 6 else 10 for y in range(h) for x in range(w)],
        }
        for mode, greys in pictures.items():
            self.assertEqual(last(picture(1, w, h, greys), pack(1), packet(1, 0))[5], mode)
        greys = noise(w, h, 9)
        told = last(picture(1, w, h, greys), picture(2, w, h, near(greys)), pack(1), pack(2, 1, 1), packet(2, 0))
        self.assertEqual(told[5], 5)

    def test_every_count_of_slices(self):
        for count in range(1, 9):
            told = run(picture(1, 4, 8, ramp(4, 8)), pack(1, count), packets(1), slices(1))
            self.assertEqual(len(told[1]), count)
            self.assertEqual(told[2], [count] + told[1])
            self.assertEqual(told[3], [count] + [2] * count)

    def test_stamps_rise(self):
        base = [picture(1, 1, 1, [512]), picture(2, 1, 1, [512]), pack(1), pack(2), pack(1)]
        told = run(*base, packet(1, 0), packet(2, 0))
        self.assertEqual([answer[1:3] for answer in told[-2:]], [[0, 3], [0, 2]])

    def test_stamp_takes_two_bytes(self):
        told = last(picture(1, 1, 1, [512]), *[pack(1)] * 300, packet(1, 0))
        self.assertEqual(told[1:3], [1, 44])
        told = last(picture(1, 1, 1, [512]), picture(2, 1, 1, [512]), *[pack(1)] * 300, pack(2, 1, 1), packet(2, 0))
        self.assertEqual(told[1:11], [1, 45, 0, 1, 0, 1, 1, 1, 1, 44])

    def test_refused_takes_no_stamp(self):
        told = run(picture(1, 1, 1, [512]), pack(1, 2), pack(1, 1, 5), pack(1, 9), pack(2), pack(1), packet(1, 0))
        self.assertEqual(told[1:5], [[-3], [-4], [-1], [-4]])
        self.assertEqual(told[-1][1:3], [0, 1])

    def test_values_packed_stay_when_the_picture_is_replaced(self):
        greys = ramp(4, 4)
        changed = [picture(1, 4, 4, greys), pack(1), picture(1, 4, 4, noise(4, 4, 8))]
        self.assertEqual(last(*changed, unpack(1)), [4, 4] + greys)
        # The reference's values are those packed, though its picture is another now.
        told = run(*changed, picture(2, 4, 4, greys), pack(2, 1, 1), packet(2, 0), unpack(2))
        self.assertEqual(told[-1], [4, 4] + greys)
        same = run(picture(1, 4, 4, greys), pack(1), picture(2, 4, 4, greys), pack(2, 1, 1), packet(2, 0))
        self.assertEqual(told[-2], same[-1])

    def test_reference_values_are_those_packed_though_packets_are_lost(self):
        greys = noise(4, 4, 8)
        told = run(picture(1, 4, 4, greys), picture(2, 4, 4, greys), pack(1), lose(1, 0), pack(2, 1, 1), packet(2, 0))
        self.assertEqual(told[-1][5], 5)

    def test_packing_anew_takes_the_streams_place(self):
        told = run(picture(1, 1, 4, [1, 2, 3, 4]), pack(1, 4), pack(1, 2), packets(1))
        self.assertEqual(told[-1], [2] + told[-2])


class PackRefusalsTest(unittest.TestCase):
    def setUp(self):
        self.base = [picture(1, 3, 4, ramp(3, 4)), picture(2, 3, 4, ramp(3, 4, 5)), picture(3, 4, 3, ramp(4, 3)),
                     pack(1, 2)]

    def test_edges_of_the_ranges(self):
        tall = [picture(1, 1, 24, flat(1, 24)), picture(99, 1, 24, flat(1, 24)), pack(99, 8)]
        for call in (pack(1, 1), pack(1, 8), pack(99, 8), pack(1, 8, 99), pack(1, 8, 0)):
            self.assertNotIn(last(*tall, call)[0], range(-9, 1))

    def test_out_of_range(self):
        for wrong in (0, 9, -1, -FAR, FAR):
            self.assertEqual(last(*self.base, pack(1, wrong)), [-1])
        for wrong in (-1, 100, -FAR, FAR):
            self.assertEqual(last(*self.base, pack(2, 2, wrong)), [-1])
        for wrong in (0, 100, -1, -FAR, FAR):
            self.assertEqual(last(*self.base, pack(wrong, 2)), [-1])
        self.assertEqual(last(*self.base, pack(50, 9)), [-1])
        self.assertEqual(last(*self.base, pack(50, 1, 100)), [-1])

    def test_no_picture(self):
        self.assertEqual(last(*self.base, pack(4, 8, 7)), [-4])

    def test_more_slices_than_rows(self):
        self.assertEqual(len(last(*self.base, pack(2, 4))), 4)
        self.assertEqual(last(*self.base, pack(2, 5)), [-3])
        self.assertEqual(last(*self.base, pack(2, 8)), [-3])
        # Before a reference that is missing, has other slices, or makes a ring.
        self.assertEqual(last(*self.base, pack(2, 5, 9)), [-3])
        self.assertEqual(last(*self.base, pack(2, 5, 1)), [-3])
        self.assertEqual(last(*self.base, pack(1, 5, 1)), [-3])

    def test_reference_missing(self):
        self.assertEqual(last(*self.base, pack(2, 2, 3)), [-4])
        self.assertEqual(last(*self.base, pack(2, 2, 99)), [-4])
        # Itself, where it has no stream yet.
        self.assertEqual(last(*self.base, pack(2, 2, 2)), [-4])

    def test_reference_of_other_sides_or_slices(self):
        self.assertEqual(last(*self.base, pack(2, 1, 1)), [-5])
        self.assertEqual(last(*self.base, pack(2, 3, 1)), [-5])
        self.assertEqual(last(*self.base, pack(3, 2, 1)), [-5])
        self.assertEqual(last(*self.base, picture(2, 3, 3, flat(3, 3)), pack(2, 2, 1)), [-5])
        self.assertEqual(last(*self.base, picture(2, 2, 4, flat(2, 4)), pack(2, 2, 1)), [-5])
        self.assertEqual(len(last(*self.base, pack(2, 2, 1))), 2)

    def test_ring(self):
        self.assertEqual(last(*self.base, pack(1, 2, 1)), [-7])
        self.assertEqual(last(*self.base, pack(2, 2, 1), pack(1, 2, 2)), [-7])
        self.assertEqual(last(*self.base, pack(2, 2, 1), pack(2, 2, 1)), last(*self.base, pack(2, 2, 1)))

    def test_ring_the_long_way(self):
        six = [picture(key, 2, 2, ramp(2, 2, key)) for key in range(1, 7)]
        chain = [pack(key, 2, key - 1) for key in range(1, 7)]
        for key in range(1, 7):
            self.assertEqual(last(*six, *chain, pack(key, 2, 6)), [-7])
        self.assertEqual(len(last(*six, *chain, pack(6, 2, 3))), 2)

    def test_no_ring_once_it_is_cut(self):
        cut = [*self.base, pack(2, 2, 1), pack(2, 2), pack(1, 2, 2)]
        self.assertEqual(len(last(*cut)), 2)
        self.assertEqual(last(*cut, slices(1)), [2, 2, 2])

    def test_other_sides_before_ring(self):
        self.assertEqual(last(*self.base, pack(1, 3, 1)), [-5])
        self.assertEqual(last(*self.base, picture(1, 4, 4, flat(4, 4)), pack(1, 2, 1)), [-5])
        self.assertEqual(last(*self.base, pack(2, 2, 1), pack(1, 3, 2)), [-5])

    def test_refused_changes_nothing(self):
        kept = run(*self.base, packets(1), packet(1, 0), packet(1, 1))[-3:]
        for wrong in (pack(1, 0), pack(1, 5), pack(1, 2, 9), pack(1, 3, 1), pack(1, 2, 1)):
            self.assertEqual(run(*self.base, wrong, packets(1), packet(1, 0), packet(1, 1))[-3:], kept)

    def test_seventh_stream(self):
        six = [picture(7, 1, 2, [1, 2]), pack(7)] + [copy(7, key) for key in range(1, 6)]
        six += [picture(8, 1, 2, [1, 2])]
        self.assertEqual(last(*six, streams()), [6, 1, 2, 3, 4, 5, 7])
        self.assertEqual(last(*six, pack(8)), [-9])
        self.assertEqual(last(*six, pack(8), streams()), [6, 1, 2, 3, 4, 5, 7])
        self.assertEqual(last(*six, pack(8, 9)), [-1])
        self.assertEqual(last(*six, pack(9)), [-4])
        self.assertEqual(last(*six, pack(8, 3)), [-3])
        # Before a reference that is missing, has other slices, or is the key itself.
        self.assertEqual(last(*six, pack(8, 1, 50)), [-9])
        self.assertEqual(last(*six, pack(8, 2, 7)), [-9])
        self.assertEqual(last(*six, pack(8, 1, 8)), [-9])
        # One that's there is packed anew.
        self.assertEqual(len(last(*six, pack(7))), 1)
        self.assertEqual(last(*six, pack(8), pack(7), packet(7, 0))[1:3], [0, 2])

    def test_seventh_stream_by_pictures_dropped(self):
        calls = []
        for key in range(1, 8):
            calls += [picture(key, 1, 1, [key]), pack(key), drop(key)]
        told = run(*calls, streams())
        self.assertEqual(told[1::3][:7], [[17]] * 6 + [[-9]])
        self.assertEqual(told[-1], [6, 1, 2, 3, 4, 5, 6])


if __name__ == "__main__":
    unittest.main()
