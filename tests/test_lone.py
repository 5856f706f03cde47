"""The calls that stand by themselves: 20 check, 21 code and 22 predict."""

import unittest

from support import FAR, check, code, last, lose, noise, pack, picture, predict, run, slow_check, whole


def run_all(calls):
    """The answers to calls that need no house, by as many as may be handed in at once."""
    told = []
    for at in range(0, len(calls), 400):
        told += run(*calls[at:at + 400])
    return told


class CheckTest(unittest.TestCase):
    def test_written_out(self):
        self.assertEqual(last(check([])), [4294967295])
        # Eight ones in step with the highest digits leave nothing to turn.
        self.assertEqual(last(check([255])), [4294967040])
        self.assertEqual(last(check([255] * 4)), [0])
        self.assertEqual(last(check([255] * 4 + [0] * 50)), [0])
        self.assertEqual(last(check([255] * 4 + [0] * 50 + [1])), [517762881])
        self.assertEqual(last(check([255] * 4 + [2])), [2 * 517762881])

    def test_each_byte(self):
        for octet, told in enumerate(run_all([check([octet]) for octet in range(256)])):
            self.assertEqual(told, [slow_check([octet])])

    def test_each_place(self):
        for place in range(40):
            for octet in (1, 128, 255):
                octets = [0] * 40
                octets[place] = octet
                self.assertEqual(last(check(octets)), [slow_check(octets)])

    def test_lengths(self):
        for size in (2, 3, 4, 5, 14, 100, 1599, 1600):
            octets = noise(size, 1, size, 0, 255)
            self.assertEqual(last(check(octets)), [slow_check(octets)])
        for size in (1601, 1700):
            self.assertEqual(last(check([1] * size)), [-1])

    def test_out_of_range(self):
        for wrong in (-1, 256, -FAR, FAR):
            for place in (0, 1, 9):
                octets = list(range(10))
                octets[place] = wrong
                self.assertEqual(last(check(octets)), [-1])
            self.assertEqual(last(check([wrong])), [-1])
            self.assertEqual(last(check([0] * 1599 + [wrong])), [-1])
        self.assertEqual(last(check([0, 255])), [slow_check([0, 255])])

    def test_seals(self):
        octets = noise(20, 1, 1, 0, 255)
        r = last(check(octets))[0]
        sealed = octets + [r // 16777216, r // 65536 % 256, r // 256 % 256, r % 256]
        # Bytes with their own check behind them always leave nothing.
        self.assertEqual(last(check(sealed)), [0])


class CodeTest(unittest.TestCase):
    def by_the_words(self, k, u):
        q = u
        for each in range(k):
            q //= 2
        if q < 12:
            low = [u // 2 ** place % 2 for place in range(k)]
            return [1] * q + [0] + low[::-1]
        return [1] * 12 + [u // 2 ** place % 2 for place in range(9, -1, -1)]

    def test_written_out(self):
        self.assertEqual(last(code(0, 0)), [1, 0])
        self.assertEqual(last(code(0, 3)), [4, 1, 1, 1, 0])
        self.assertEqual(last(code(2, 6)), [4, 1, 0, 1, 0])
        self.assertEqual(last(code(0, 11)), [12] + [1] * 11 + [0])
        self.assertEqual(last(code(0, 12)), [22] + [1] * 12 + [0, 0, 0, 0, 0, 0, 1, 1, 0, 0])
        self.assertEqual(last(code(6, 767)), [18] + [1] * 11 + [0] + [1] * 6)
        self.assertEqual(last(code(6, 768)), [22] + [1] * 12 + [1, 1] + [0] * 8)
        self.assertEqual(last(code(7, 1023)), [15] + [1] * 7 + [0] + [1] * 7)
        self.assertEqual(last(code(10, 0)), [11] + [0] * 11)
        self.assertEqual(last(code(10, 1023)), [11, 0] + [1] * 10)

    def test_every_k_and_number(self):
        pairs = [(k, u) for k in range(11) for u in range(1024)]
        for (k, u), told in zip(pairs, run_all([code(k, u) for k, u in pairs])):
            asked = self.by_the_words(k, u)
            self.assertEqual(told, [len(asked)] + asked, (k, u))

    def test_out_of_range(self):
        for wrong in (-1, 11, -FAR, FAR):
            for u in (0, 5, 1023, -1, 1024):
                self.assertEqual(last(code(wrong, u)), [-1])
        for wrong in (-1, 1024, -FAR, FAR):
            for k in (0, 5, 10):
                self.assertEqual(last(code(k, wrong)), [-1])


class PredictTest(unittest.TestCase):
    def by_the_words(self, mode, a, b, c):
        low, high = min(a, b), max(a, b)
        by_corner = low if c >= high else high if c <= low else a + b - c
        value = [512, a, b, min(max(a + b - c, 0), 1023), by_corner][mode]
        lively = abs(a - c) + abs(c - b)
        return [value, 0 if lively <= 2 else 1 if lively <= 15 else 2]

    def test_written_out(self):
        self.assertEqual(last(predict(0, 1, 2, 3)), [512, 1])
        self.assertEqual(last(predict(1, 100, 200, 300)), [100, 2])
        self.assertEqual(last(predict(2, 100, 200, 300)), [200, 2])
        self.assertEqual(last(predict(3, 100, 200, 150)), [150, 2])
        self.assertEqual(last(predict(3, 10, 20, 1023)), [0, 2])
        self.assertEqual(last(predict(3, 1023, 20, 19)), [1023, 2])
        self.assertEqual(last(predict(4, 10, 20, 15)), [15, 1])
        self.assertEqual(last(predict(4, 10, 20, 20)), [10, 1])
        self.assertEqual(last(predict(4, 10, 20, 10)), [20, 1])

    def test_contexts(self):
        for a, b, c, context in ((5, 5, 5, 0), (6, 6, 5, 0), (5, 7, 5, 0), (3, 5, 5, 0), (4, 5, 6, 1), (5, 8, 5, 1),
                                 (20, 5, 5, 1), (5, 5, 12, 1), (5, 20, 5, 1), (5, 5, 13, 2), (21, 5, 5, 2),
                                 (5, 21, 5, 2), (0, 1023, 0, 2), (0, 0, 1023, 2)):
            for mode in range(5):
                self.assertEqual(last(predict(mode, a, b, c))[1], context)

    def test_every_mode(self):
        edge = (0, 1, 2, 3, 8, 15, 16, 500, 511, 512, 1021, 1022, 1023)
        asked = [(mode, a, b, c) for mode in range(5) for a in edge for b in edge for c in edge]
        for four, told in zip(asked, run_all([predict(*four) for four in asked])):
            self.assertEqual(told, self.by_the_words(*four), four)

    def test_out_of_range(self):
        for wrong in (-1, 5, 6, -FAR, FAR):
            self.assertEqual(last(predict(wrong, 1, 2, 3)), [-1])
        for wrong in (-1, 1024, -FAR, FAR):
            for mode in range(5):
                self.assertEqual(last(predict(mode, wrong, 2, 3)), [-1])
                self.assertEqual(last(predict(mode, 1, wrong, 3)), [-1])
                self.assertEqual(last(predict(mode, 1, 2, wrong)), [-1])


class NothingChangesTest(unittest.TestCase):
    def test_nothing_changes(self):
        base = [picture(1, 2, 3, noise(2, 3, 1)), pack(1, 3), lose(1, 1)]
        for call in (check([1, 2]), check([256]), code(3, 4), code(11, 4), predict(3, 1, 2, 3), predict(5, 1, 2, 3)):
            self.assertEqual(whole(*base, call), whole(*base))


if __name__ == "__main__":
    unittest.main()
