"""The calls 13 errors, 15 copy, 16 merge, 17 keep and 24 streams."""

import unittest

from packedframes.codes import coded
from support import (FAR, burst, copy, drop, errors, flat, flip, give, hits_of, keep, last, lose, merge, near, noise,
                     octets_of, pack, packet, packets, picture, pictures, run, same, seal, slices, streams, turn, twice,
                     unpack, values, whole)

WRONG_KEYS = (0, 100, -1, -FAR, FAR)
GREYS = noise(3, 8, 1)
NEAR = near(GREYS, 2)
ONE = [picture(1, 3, 8, GREYS), pack(1, 4)]
# Stream 2 is packed by difference from stream 1.
TWO = [*ONE, picture(2, 3, 8, NEAR), pack(2, 4, 1)]
SIX = [picture(1, 1, 1, [5]), pack(1)] + [copy(1, key) for key in (2, 3, 4, 98, 99)]


def differences(packed, unpacked):
    off = [abs(one - other) for one, other in zip(packed, unpacked)]
    return [sum(1 for each in off if each), max(off)]


class ErrorsTest(unittest.TestCase):
    def test_read_whole(self):
        self.assertEqual(last(*ONE, errors(1)), [0, 0])
        self.assertEqual(last(*TWO, errors(2)), [0, 0])
        self.assertEqual(last(picture(99, 1, 1, [0]), pack(99), errors(99)), [0, 0])

    def test_written_out(self):
        base = [picture(1, 2, 3, [0, 1000, 7, 500, 100, 1]), pack(1, 3)]
        self.assertEqual(last(*base, lose(1, 1), errors(1)), [1, 43])
        self.assertEqual(last(*base, lose(1, 0), errors(1)), [2, 500])
        self.assertEqual(last(*base, lose(1, 2), errors(1)), [2, 499])
        self.assertEqual(last(*base, *[lose(1, 0)] * 3, errors(1)), [6, 512])

    def test_the_greatest_is_told(self):
        base = [picture(1, 1, 4, [10, 20, 10, 13]), pack(1, 4)]
        self.assertEqual(last(*base, lose(1, 1), errors(1)), [1, 10])
        self.assertEqual(last(*base, lose(1, 1), lose(1, 1), errors(1)), [2, 9])

    def test_rows_made_up_that_are_right_do_not_count(self):
        base = [picture(1, 2, 3, flat(2, 3)), pack(1, 3), lose(1, 1)]
        self.assertEqual(run(*base, slices(1), errors(1))[-2:], [[3, 2, 0, 2], [0, 0]])
        base = [picture(1, 2, 3, flat(2, 3, 512)), pack(1, 3), *[lose(1, 0)] * 3]
        self.assertEqual(run(*base, slices(1), errors(1))[-2:], [[3, 0, 0, 0], [0, 0]])

    def test_hit(self):
        for hit in (flip(1, 2, 11, 3), burst(1, 2, 33, 999)):
            told = run(*ONE, hit, unpack(1), errors(1))
            self.assertEqual(told[-1], differences(GREYS, told[-2][2:]))
            self.assertGreater(told[-1][0], 0)
            self.assertEqual(last(*ONE, twice(1, 2), hit, errors(1)), [0, 0])

    def test_reference_not_read(self):
        told = run(*TWO, lose(1, 3), slices(2), unpack(2), errors(2), errors(1))
        self.assertEqual(told[-4], [4, 2, 2, 2, 1])
        self.assertEqual(told[-2], differences(NEAR, told[-3][2:]))
        self.assertGreater(min(told[-2]), 0)
        self.assertEqual(told[-1], differences(GREYS, GREYS[:18] + GREYS[15:18] * 2))
        told = run(*TWO, pack(1, 4), errors(2))
        self.assertEqual(told[-1], differences(NEAR, flat(3, 8, 512)))

    def test_read_by_a_forged_packet(self):
        base = [picture(1, 3, 1, [1, 2, 3]), pack(1), lose(1, 0)]
        forged = seal([0, 1, 0, 1, 0, 3, 1, 0, 0, 0] + coded([1, 1023, 2], 3, 0, []))
        self.assertEqual(run(*base, give(1, forged), slices(1), errors(1))[-2:], [[1, 2], [2, 1021]])

    def test_against_what_was_packed(self):
        self.assertEqual(last(*ONE, picture(1, 3, 8, flat(3, 8)), errors(1)), [0, 0])
        self.assertEqual(last(*ONE, picture(1, 1, 1, [3]), errors(1)), [0, 0])
        self.assertEqual(last(*ONE, drop(1), errors(1)), [0, 0])
        self.assertEqual(last(*ONE, drop(1), lose(1, 1), errors(1)), last(*ONE, lose(1, 1), errors(1)))

    def test_refusals(self):
        for wrong in WRONG_KEYS:
            self.assertEqual(last(*ONE, errors(wrong)), [-1])
        for key in (2, 99):
            self.assertEqual(last(*ONE, errors(key)), [-4])
        self.assertEqual(last(picture(2, 1, 1, [5]), errors(2)), [-4])

    def test_changes_nothing(self):
        base = [*TWO, lose(1, 1), flip(2, 0, 3, 3)]
        for call in (errors(1), errors(2), errors(3), errors(0)):
            self.assertEqual(whole(*base, call), whole(*base))


class CopyTest(unittest.TestCase):
    def look(self, calls, key):
        """All that can be asked of one stream."""
        told = run(*calls, packets(key), slices(key), unpack(key), errors(key))[len(calls):]
        return [told, octets_of(calls, key), hits_of(calls, key)]

    def test_onto_a_new_key(self):
        base = [*TWO, flip(2, 0, 3, 3), burst(2, 1, 7, 7), lose(2, 2), give(2, [1, 2, 3]), turn(2)]
        for new in (3, 99):
            self.assertEqual(last(*base, copy(2, new)), [0])
            self.assertEqual(self.look([*base, copy(2, new)], new), self.look(base, 2))
            self.assertEqual(self.look([*base, copy(2, new)], 2), self.look(base, 2))
            self.assertEqual(last(*base, copy(2, new), streams()), [3, 1, 2, new])

    def test_onto_a_key_that_is_there(self):
        base = [*TWO, picture(3, 1, 1, [5]), pack(3), flip(1, 0, 3, 3)]
        self.assertEqual(last(*base, copy(1, 3)), [0])
        self.assertEqual(self.look([*base, copy(1, 3)], 3), self.look(base, 1))
        self.assertEqual(last(*base, copy(1, 3), streams()), [3, 1, 2, 3])
        # Its picture is another thing.
        self.assertEqual(last(*base, copy(1, 3), values(3)), [1, 1, 5])

    def test_onto_itself(self):
        base = [*TWO, flip(2, 0, 3, 3), lose(1, 1), twice(1, 0)]
        for key in (1, 2):
            self.assertEqual(last(*base, copy(key, key)), [0])
            self.assertEqual(whole(*base, copy(key, key)), whole(*base))

    def test_takes_no_stamp(self):
        told = run(*ONE, copy(1, 2), copy(1, 3), pack(1, 4), packet(1, 0), packet(2, 0), packet(3, 0))
        self.assertEqual([answer[1:3] for answer in told[-3:]], [[0, 2], [0, 1], [0, 1]])

    def test_packets_are_apart_from_then_on(self):
        base = [*TWO, copy(2, 3)]
        for changed, other in ((2, 3), (3, 2)):
            for call in (flip(changed, 0, 2, 2), burst(changed, 1, 4, 5), lose(changed, 2), turn(changed),
                         twice(changed, 1), give(changed, [9, 9])):
                self.assertGreaterEqual(last(*base, call)[0], 0)
                self.assertEqual(self.look([*base, call], other), self.look(base, other), call)
                self.assertNotEqual(octets_of([*base, call], changed), octets_of(base, changed))

    def test_hits_are_copied_and_apart(self):
        base = [*ONE, flip(1, 0, 2, 2), flip(1, 0, 2, 2), copy(1, 3)]
        self.assertEqual(run(*base, flip(3, 0, 1, 1), flip(3, 0, 1, 1), flip(1, 0, 1, 1))[-3:], [[0], [-8], [0]])
        self.assertEqual(last(*ONE, burst(1, 0, 2, 2), copy(1, 3), flip(3, 0, 1, 1)), [-8])
        self.assertEqual(last(*ONE, give(1, [5]), copy(1, 3), flip(3, 4, 0, 1)), [-8])

    def test_packing_anew_leaves_the_copy(self):
        told = run(*ONE, copy(1, 5), picture(1, 2, 2, [1, 2, 3, 4]), pack(1), slices(5), unpack(5), unpack(1))
        self.assertEqual(told[-3:], [[4, 2, 2, 2, 2], [3, 8] + GREYS, [2, 2, 1, 2, 3, 4]])

    def test_a_copy_of_a_stream_by_difference_is_read(self):
        told = run(*TWO, copy(2, 3), slices(3), unpack(3), lose(1, 1), slices(3))
        self.assertEqual(told[-4:-2], [[4, 2, 2, 2, 2], [3, 8] + NEAR])
        self.assertEqual(told[-1], [4, 2, 1, 2, 2])

    def test_reference_copied_away_and_back(self):
        base = [*TWO, copy(1, 7), pack(1, 4)]
        self.assertEqual(last(*base, slices(2)), [4, 1, 1, 1, 1])
        told = run(*base, copy(7, 1), slices(2), unpack(2), errors(2))
        self.assertEqual(told[-3:], [[4, 2, 2, 2, 2], [3, 8] + NEAR, [0, 0]])
        # Away once more with another stream in its place.
        told = run(*base, picture(8, 1, 1, [3]), pack(8), copy(8, 1), slices(2), copy(7, 1), slices(2))
        self.assertEqual([told[-3], told[-1]], [[4, 1, 1, 1, 1], [4, 2, 2, 2, 2]])

    def test_reference_copied_back_as_it_was_hit(self):
        told = run(*TWO, copy(1, 7), lose(7, 2), copy(7, 1), slices(1), slices(2))
        self.assertEqual(told[-2:], [[4, 2, 2, 0, 2], [4, 2, 2, 1, 2]])
        told = run(*TWO, copy(1, 7), lose(1, 2), slices(2), copy(7, 1), slices(2))
        self.assertEqual([told[-3], told[-1]], [[4, 2, 2, 1, 2], [4, 2, 2, 2, 2]])

    def test_packed_by_difference_from_a_copy(self):
        told = run(*ONE, copy(1, 7), picture(2, 3, 8, NEAR), pack(2, 4, 7), packet(2, 0), unpack(2), lose(7, 0),
                   slices(2))
        self.assertEqual(told[-4][5:11], [5, 3, 8, 7, 0, 1])
        self.assertEqual([told[-3], told[-1]], [[3, 8] + NEAR, [4, 1, 2, 2, 2]])

    def test_ring(self):
        self.assertEqual(last(*TWO, copy(2, 1)), [-7])
        self.assertEqual(whole(*TWO, copy(2, 1)), whole(*TWO))
        # The reference itself may stand in the place of what hangs on it.
        self.assertEqual(last(*TWO, copy(1, 2)), [0])

    def test_ring_the_long_way(self):
        base = [picture(key, 2, 2, noise(2, 2, key)) for key in range(1, 7)]
        base += [pack(key, 2, key - 1) for key in range(1, 7)]
        for key in range(1, 7):
            for new in range(1, 7):
                self.assertEqual(last(*base, copy(key, new)), [-7] if new < key else [0])

    def test_ring_goes_by_keys_though_stamps_are_others(self):
        self.assertEqual(last(*TWO, pack(1, 4), copy(2, 1)), [-7])
        # Stream 3 refers to 2, which refers to 1; with 2 cut off, 3 doesn't lead to 1 any more.
        base = [*TWO, picture(3, 3, 8, GREYS), pack(3, 4, 2)]
        self.assertEqual(last(*base, copy(3, 1)), [-7])
        self.assertEqual(last(*base, pack(2, 4), copy(3, 1)), [0])
        self.assertEqual(last(*base, pack(2, 4), copy(3, 1), slices(1)), [4, 1, 1, 1, 1])

    def test_pack_finds_rings_made_by_copies(self):
        base = [*TWO, picture(3, 3, 8, GREYS), pack(3, 4), copy(2, 3)]
        self.assertEqual(last(*base, pack(1, 4, 3)), [-7])
        self.assertEqual(len(last(*base, pack(3, 4, 1))), 4)

    def test_seventh(self):
        self.assertEqual(last(*SIX, streams()), [6, 1, 2, 3, 4, 98, 99])
        for new in (5, 97):
            self.assertEqual(last(*SIX, copy(1, new)), [-9])
            self.assertEqual(last(*SIX, copy(1, new), streams()), [6, 1, 2, 3, 4, 98, 99])
        self.assertEqual(last(*SIX, copy(1, 99)), [0])
        self.assertEqual(whole(*SIX, copy(1, 5)), whole(*SIX))

    def test_refusals(self):
        for base in (TWO, SIX):
            for wrong in WRONG_KEYS:
                self.assertEqual(last(*base, copy(1, wrong)), [-1])
                self.assertEqual(last(*base, copy(50, wrong)), [-1])
                self.assertEqual(last(*base, copy(wrong, 1)), [-1])
                self.assertEqual(last(*base, copy(wrong, 50)), [-1])
            self.assertEqual(last(*base, copy(50, 1)), [-4])
            self.assertEqual(last(*base, copy(50, 51)), [-4])
            self.assertEqual(last(*base, copy(50, 50)), [-4])
        # A picture of a key is no stream of it.
        self.assertEqual(last(picture(1, 1, 1, [5]), copy(1, 2)), [-4])
        for call in (copy(1, 0), copy(0, 1), copy(50, 1)):
            self.assertEqual(whole(*TWO, call), whole(*TWO))


class MergeTest(unittest.TestCase):
    def setUp(self):
        # Stream 5 is a whole copy of stream 1, which has lost the packets of slices 1 and 3.
        self.base = [*ONE, copy(1, 5), lose(1, 3), lose(1, 1)]
        self.own = octets_of(ONE, 1)

    def test_same_stamp(self):
        told = run(*self.base, slices(1), merge(1, 5), slices(1), unpack(1), errors(1))
        self.assertEqual(told[-5:], [[4, 2, 0, 2, 0], [4], [4, 2, 2, 2, 2], [3, 8] + GREYS, [0, 0]])
        self.assertEqual(octets_of([*self.base, merge(1, 5)], 1), [self.own[i] for i in (0, 2, 1, 3)])
        self.assertEqual(octets_of([*self.base, merge(1, 5)], 5), self.own)

    def test_in_order(self):
        self.assertEqual(octets_of([*self.base, turn(5), merge(1, 5)], 1), [self.own[i] for i in (0, 2, 3, 1)])

    def test_all_that_fit(self):
        base = [*self.base, twice(5, 1), twice(5, 0), twice(5, 3)]
        self.assertEqual(last(*base, merge(1, 5)), [6])
        self.assertEqual(octets_of([*base, merge(1, 5)], 1), [self.own[i] for i in (0, 2, 1, 3, 1, 3)])

    def test_nothing_where_all_is_read(self):
        self.assertEqual(last(*ONE, copy(1, 5), merge(1, 5)), [4])
        self.assertEqual(last(*self.base, merge(1, 5), merge(1, 5)), [4])
        self.assertEqual(whole(*ONE, copy(1, 5), merge(1, 5)), whole(*ONE, copy(1, 5)))

    def test_nothing_of_what_is_hit(self):
        for hit in (flip(5, 1, 3, 3), flip(5, 1, 13, 3), burst(5, 1, 90, 12345)):
            told = run(*self.base, hit, merge(1, 5), slices(1))
            self.assertEqual(told[-2:], [[3], [4, 2, 0, 2, 2]])

    def test_another_stamp(self):
        base = [*ONE, picture(2, 3, 8, GREYS), pack(2, 4), *[lose(1, 0)] * 4]
        self.assertEqual(run(*base, merge(1, 2), packets(1), slices(1))[-3:], [[0], [0], [4, 0, 0, 0, 0]])
        # Its own packets from before it was packed anew don't fit either.
        self.assertEqual(last(*ONE, copy(1, 5), pack(1, 4), *[lose(1, 0)] * 4, merge(1, 5)), [0])

    def test_other_sides_and_slices(self):
        base = [*ONE, picture(2, 2, 2, [1, 2, 3, 4]), pack(2, 2), *[lose(1, 0)] * 4]
        self.assertEqual(last(*base, merge(1, 2)), [0])
        self.assertEqual(last(*base, merge(2, 1)), [2])

    def test_fitting_packets_of_a_stream_that_it_is_not(self):
        # A packet counts by its bytes, whosesoever row it stands in.
        base = [*ONE, picture(2, 1, 1, [3]), pack(2), lose(1, 2), give(2, self.own[2]), give(2, self.own[1])]
        self.assertEqual(run(*base, merge(1, 2), slices(1))[-2:], [[4], [4, 2, 2, 2, 2]])

    def test_itself(self):
        self.assertEqual(last(*ONE, merge(1, 1)), [4])
        self.assertEqual(last(*self.base, merge(1, 1)), [2])
        # Packets that wait, or that fit and can't be decoded, belong to a slice that isn't read.
        told = run(*TWO, lose(1, 1), merge(2, 2), packets(2), slices(2))
        self.assertEqual([told[-3], told[-1]], [[5], [4, 2, 1, 2, 2]])
        broken = seal(self.own[1][:10] + [255])
        base = [*ONE, lose(1, 1), give(1, broken)]
        self.assertEqual(run(*base, merge(1, 1), merge(1, 1), slices(1))[-3:], [[5], [7], [4, 2, 0, 2, 2]])
        self.assertEqual(octets_of([*base, merge(1, 1)], 1)[3:], [broken] * 2)

    def test_undecoded_packets_are_put_there_too(self):
        broken = seal(self.own[1][:10] + [255])
        base = [*ONE, copy(1, 5), lose(1, 1), lose(5, 1), give(5, broken)]
        self.assertEqual(run(*base, merge(1, 5), slices(1))[-2:], [[4], [4, 2, 0, 2, 2]])

    def test_too_short_or_not_sealed(self):
        head = self.own[1][:10]
        for octets in ([], head, seal(head[:9]), head + [0, 0, 0, 0], self.own[1][:-1], self.own[1] + [1]):
            base = [*ONE, copy(1, 5), lose(1, 1), lose(5, 1), give(5, octets)]
            self.assertEqual(last(*base, merge(1, 5)), [3])
        base = [*ONE, copy(1, 5), lose(1, 1), lose(5, 1), give(5, seal(head))]
        self.assertEqual(last(*base, merge(1, 5)), [4])

    def test_mode_5_only_where_there_is_a_reference(self):
        for mode, count in ((0, 4), (4, 4), (5, 3), (6, 3), (255, 3)):
            octets = seal(self.own[1][:4] + [mode] + self.own[1][5:-4])
            base = [*ONE, copy(1, 5), lose(1, 1), give(5, octets), lose(5, 1)]
            self.assertEqual(last(*base, merge(1, 5)), [count], mode)
        own = octets_of(TWO, 2)
        for mode, count in ((0, 4), (4, 4), (5, 4), (6, 3), (255, 3)):
            octets = seal(own[1][:4] + [mode] + own[1][5:-4])
            base = [*TWO, copy(2, 5), lose(2, 1), give(5, octets), lose(5, 1)]
            self.assertEqual(last(*base, merge(2, 5)), [count], mode)

    def test_slices_that_wait_are_not_read(self):
        # Stream 2 waits for slice 1 of stream 1: packets of the very slice are put there.
        told = run(*TWO, copy(2, 5), lose(1, 1), slices(2), merge(2, 5), slices(2))
        self.assertEqual(told[-3:], [[4, 2, 1, 2, 2], [5], [4, 2, 1, 2, 2]])

    def test_as_it_is_before(self):
        # The first packet put there reads slice 1; the second of it is put there all the same.
        base = [*self.base, twice(5, 1)]
        self.assertEqual(last(*base, merge(1, 5)), [5])
        # Merging may read what the other waits for, and that is seen only afterwards.
        base = [*TWO, copy(1, 5), lose(1, 1), slices(2)]
        self.assertEqual(run(*base, merge(1, 5), slices(2))[-3:], [[4, 2, 1, 2, 2], [4], [4, 2, 2, 2, 2]])

    def test_hits_go_along_and_are_apart(self):
        # Flipped twice in one bit, the packet is as it was, and fits.
        base = [*self.base, flip(5, 1, 2, 2), flip(5, 1, 2, 2), merge(1, 5)]
        self.assertEqual(last(*base), [4])
        self.assertEqual(run(*base, flip(1, 2, 1, 1), flip(1, 2, 1, 1), flip(5, 1, 1, 1))[-3:], [[0], [-8], [0]])
        self.assertEqual(last(*self.base, give(5, self.own[1]), lose(5, 1), merge(1, 5), flip(1, 3, 0, 0)), [-8])
        self.assertEqual(last(*self.base, merge(1, 5), burst(1, 2, 0, 1)), [0])

    def test_packets_are_apart_from_then_on(self):
        base = [*self.base, merge(1, 5)]
        for call in (flip(1, 2, 12, 1), burst(1, 2, 3, 3), lose(1, 2), turn(1), twice(1, 2), give(1, [1])):
            self.assertEqual(octets_of([*base, call], 5), self.own)
            self.assertEqual(hits_of([*base, call], 5), hits_of(base, 5))
        for call in (flip(5, 1, 12, 1), burst(5, 1, 3, 3), lose(5, 1), turn(5), twice(5, 1), give(5, [1])):
            self.assertEqual(octets_of([*base, call], 1), octets_of(base, 1))
            self.assertEqual(hits_of([*base, call], 1), hits_of(base, 1))
        # Also where a stream is merged with itself.
        base = [*TWO, lose(1, 1), merge(2, 2)]
        told = octets_of([*base, flip(2, 1, 3, 3)], 2)
        self.assertEqual(told[4], octets_of(TWO, 2)[1])
        self.assertNotEqual(told[1], told[4])

    def test_twentieth_and_twenty_first(self):
        # Stream 1 has 19 packets and needs slice 1, of which stream 5 has one, then two.
        base = [*ONE, copy(1, 5), lose(1, 1), *[twice(1, 0)] * 16]
        self.assertEqual(last(*base), [19])
        self.assertEqual(run(*base, merge(1, 5), packets(1), slices(1))[-3][0], 20)
        self.assertEqual(last(*base, merge(1, 5), slices(1)), [4, 2, 2, 2, 2])
        two = [*base, twice(5, 1)]
        self.assertEqual(last(*two, merge(1, 5)), [-9])
        self.assertEqual(octets_of([*two, merge(1, 5)], 1), octets_of(two, 1))
        self.assertEqual(last(*two, merge(1, 5), slices(1)), [4, 2, 0, 2, 2])
        full = [*base, twice(1, 0)]
        self.assertEqual(last(*full, merge(1, 5)), [-9])
        # Where none is put there, a full stream is no refusal.
        self.assertEqual(last(*full, lose(5, 1), merge(1, 5)), [20])
        self.assertEqual(last(*base, merge(1, 5), merge(1, 5)), [20])

    def test_twenty_at_once(self):
        base = [picture(1, 1, 1, [7]), pack(1), copy(1, 5), *[twice(5, 0)] * 19, lose(1, 0)]
        self.assertEqual(run(*base, merge(1, 5), slices(1))[-2:], [[20], [1, 2]])
        self.assertEqual(last(*base, give(1, []), merge(1, 5)), [-9])

    def test_refusals(self):
        for wrong in WRONG_KEYS:
            for other in (1, 50, wrong):
                self.assertEqual(last(*self.base, merge(wrong, other)), [-1])
                self.assertEqual(last(*self.base, merge(other, wrong)), [-1])
        for a, b in ((1, 2), (2, 1), (2, 2), (99, 1), (1, 99), (98, 99)):
            self.assertEqual(last(*self.base, merge(a, b)), [-4])
        for call in (merge(1, 0), merge(0, 1), merge(1, 2), merge(2, 1)):
            self.assertEqual(whole(*self.base, call), whole(*self.base))


class KeepTest(unittest.TestCase):
    def test_read_whole(self):
        for key in (1, 3, 99):
            told = run(*ONE, keep(1, key), values(key), same(1, key))
            self.assertEqual(told[-3:], [[0], [3, 8] + GREYS, [1]])

    def test_rows_made_up(self):
        told = run(*ONE, lose(1, 1), keep(1, 3), values(3), unpack(1), same(1, 3))
        self.assertEqual(told[-3], told[-2])
        self.assertEqual(told[-1], [0, 0, 2])
        halves = [(a + b) // 2 for a, b in zip(GREYS[3:6], GREYS[12:15])]
        self.assertEqual(told[-3], [3, 8] + GREYS[:6] + halves * 2 + GREYS[12:])

    def test_none_read_and_waiting(self):
        told = run(*TWO, *[lose(1, 0)] * 4, keep(1, 3), keep(2, 4), values(3), values(4))
        self.assertEqual(told[-4:], [[0], [0], [3, 8] + [512] * 24, [3, 8] + [512] * 24])

    def test_packed_and_unpacked_again(self):
        for mishap in ([], [lose(1, 1)], [flip(1, 0, 0, 0), burst(1, 3, 0, 1)], [lose(1, 0)] * 4):
            for count in (1, 4, 8):
                told = run(*ONE, *mishap, unpack(1), keep(1, 3), pack(3, count), slices(3), unpack(3), errors(3))
                self.assertEqual(told[-3:], [[count] + [2] * count, told[-6], [0, 0]])

    def test_in_the_place_of_its_own_picture(self):
        told = run(*ONE, lose(1, 3), keep(1, 1), values(1), unpack(1), errors(1))
        self.assertEqual(told[-3], told[-2])
        self.assertEqual(told[-1], differences(GREYS, told[-2][2:]))

    def test_takes_the_sides_along(self):
        told = run(*ONE, picture(3, 1, 1, [5]), keep(1, 3), values(3))
        self.assertEqual(told[-1], [3, 8] + GREYS)

    def test_packing_by_difference_from_the_stream_it_was_kept_of(self):
        told = run(*ONE, keep(1, 3), pack(3, 4, 1), packet(3, 0), unpack(3), lose(1, 0), slices(3))
        self.assertEqual(told[-4][5], 5)
        self.assertEqual([told[-3], told[-1]], [[3, 8] + GREYS, [4, 1, 2, 2, 2]])

    def test_pictures_and_streams_are_apart_from_then_on(self):
        base = [*ONE, lose(1, 1), keep(1, 3), pack(3, 4)]
        kept = run(*base, values(3), unpack(3), unpack(1), errors(1), slices(1))[-5:]
        looks = [unpack(3), unpack(1), errors(1), slices(1)]
        for call in (picture(3, 3, 8, flat(3, 8)), picture(1, 1, 1, [1]), drop(3), drop(1)):
            self.assertEqual(run(*base, call, *looks)[-4:], kept[1:])
            self.assertEqual([octets_of([*base, call], key) for key in (1, 3)],
                             [octets_of(base, key) for key in (1, 3)])
        # A stream that changes afterwards leaves the picture.
        for call in (lose(1, 0), turn(1), flip(1, 0, 0, 0), pack(1, 2), give(1, [])):
            self.assertEqual(run(*base, call, values(3))[-1], kept[0])

    def test_seventh(self):
        six = [*ONE, *[picture(key, 1, 1, [key]) for key in (2, 3, 4, 5, 99)]]
        for key in (6, 98):
            self.assertEqual(last(*six, keep(1, key)), [-9])
            self.assertEqual(whole(*six, keep(1, key)), whole(*six))
        for key in (1, 2, 99):
            self.assertEqual(run(*six, keep(1, key), values(key))[-2:], [[0], [3, 8] + GREYS])
        self.assertEqual(run(*six, drop(2), keep(1, 6), pictures())[-2:], [[0], [6, 1, 3, 4, 5, 6, 99]])
        self.assertEqual(last(*six, drop(2), keep(1, 6), keep(1, 2)), [-9])
        # The other refusals come before.
        self.assertEqual(last(*six, keep(1, 100)), [-1])
        self.assertEqual(last(*six, keep(0, 6)), [-1])
        self.assertEqual(last(*six, keep(2, 6)), [-4])

    def test_refusals(self):
        for wrong in WRONG_KEYS:
            self.assertEqual(last(*ONE, keep(1, wrong)), [-1])
            self.assertEqual(last(*ONE, keep(50, wrong)), [-1])
            self.assertEqual(last(*ONE, keep(wrong, 1)), [-1])
        for key in (2, 99):
            self.assertEqual(last(*ONE, picture(2, 1, 1, [5]), keep(key, 1)), [-4])
        for call in (keep(1, 0), keep(0, 1), keep(2, 1), keep(2, 2)):
            self.assertEqual(whole(*ONE, call), whole(*ONE))

    def test_takes_no_stamp(self):
        self.assertEqual(last(*ONE, keep(1, 3), pack(3), packet(3, 0))[1:3], [0, 2])


class StreamsTest(unittest.TestCase):
    def test_rising(self):
        self.assertEqual(last(streams()), [0])
        for order in ((1, 2, 3), (3, 2, 1), (99, 1, 50, 7, 10, 2)):
            told = last(*[picture(key, 1, 1, [key]) for key in order], *[pack(key) for key in order], streams())
            self.assertEqual(told, [len(order)] + sorted(order))

    def test_copied_and_packed_anew(self):
        base = [picture(40, 1, 1, [5]), picture(30, 1, 1, [5]), pack(40), pack(30)]
        self.assertEqual(last(*base, pack(40), streams()), [2, 30, 40])
        self.assertEqual(last(*base, copy(40, 35), copy(40, 1), streams()), [4, 1, 30, 35, 40])
        self.assertEqual(last(*base, copy(40, 30), streams()), [2, 30, 40])
        self.assertEqual(last(*base, lose(40, 0), drop(40), streams()), [2, 30, 40])

    def test_pictures_and_refused_ones_are_not_counted(self):
        self.assertEqual(last(picture(1, 1, 1, [5]), pack(1, 2), pack(2), copy(1, 3), streams()), [0])


if __name__ == "__main__":
    unittest.main()
