"""The calls 0 picture and 1 values."""

import unittest

from support import FAR, flat, last, noise, picture, run, values


class PictureTest(unittest.TestCase):
    def test_put_and_told(self):
        greys = noise(5, 3, 1)
        self.assertEqual(run(picture(7, 5, 3, greys), values(7)), [[0], [5, 3] + greys])

    def test_edges_of_the_ranges(self):
        for key in (1, 99):
            self.assertEqual(last(picture(key, 2, 2, [0, 1023, 1, 1022])), [0])
        for w, h in ((1, 1), (24, 1), (1, 24), (24, 24)):
            greys = noise(w, h, w)
            self.assertEqual(run(picture(1, w, h, greys), values(1)), [[0], [w, h] + greys])

    def test_out_of_range(self):
        for wrong in (0, 100, -1, -FAR, FAR):
            self.assertEqual(last(picture(wrong, 1, 1, [5])), [-1])
        for wrong in (0, 25, -1, -FAR, FAR):
            self.assertEqual(last(picture(1, wrong, 1, flat(24, 1))), [-1])
            self.assertEqual(last(picture(1, 1, wrong, flat(1, 24))), [-1])
        for wrong in (-1, 1024, -FAR, FAR):
            for place in (0, 3):
                greys = [0, 1, 2, 1023]
                greys[place] = wrong
                self.assertEqual(last(picture(1, 2, 2, greys)), [-1])

    def test_sides_that_would_make_up_the_count(self):
        self.assertEqual(last(picture(1, 25, 1, flat(25, 1))), [-1])
        self.assertEqual(last(picture(1, 1, 25, flat(1, 25))), [-1])
        self.assertEqual(last(picture(1, 0, 5, [])), [-1])
        self.assertEqual(last(picture(1, 5, 0, [])), [-1])
        self.assertEqual(last(picture(1, 0, 0, [])), [-1])
        self.assertEqual(last(picture(1, -1, -4, flat(4, 1))), [-1])

    def test_wrong_count(self):
        for greys in ([], flat(3, 1), flat(5, 1), flat(1700, 1)):
            self.assertEqual(last(picture(1, 2, 2, greys)), [-1])
        self.assertEqual(last(picture(1, 24, 24, flat(575, 1))), [-1])
        self.assertEqual(last(picture(1, 24, 24, flat(577, 1))), [-1])

    def test_seventh(self):
        six = [picture(key, 1, 1, [key]) for key in (1, 5, 9, 50, 98, 99)]
        told = run(*six, picture(2, 1, 1, [2]), values(2), picture(50, 2, 1, [3, 4]), values(50), values(1))
        self.assertEqual(told, [[0]] * 6 + [[-9], [-4], [0], [2, 1, 3, 4], [1, 1, 1]])

    def test_out_of_range_before_seventh(self):
        six = [picture(key, 1, 1, [key]) for key in range(1, 7)]
        self.assertEqual(last(*six, picture(7, 1, 1, [1024])), [-1])
        self.assertEqual(last(*six, picture(100, 1, 1, [1])), [-1])

    def test_refused_changes_nothing(self):
        for wrong in (picture(1, 2, 1, [7, 1024]), picture(1, 2, 1, [7]), picture(1, 0, 1, [7])):
            self.assertEqual(last(picture(1, 1, 1, [5]), wrong, values(1)), [1, 1, 5])

    def test_refused_is_not_counted(self):
        wrong = [picture(key, 1, 1, []) for key in range(1, 9)]
        six = [picture(key, 1, 1, [key]) for key in range(11, 17)]
        self.assertEqual(run(*wrong, *six), [[-1]] * 8 + [[0]] * 6)


class ValuesTest(unittest.TestCase):
    def test_out_of_range(self):
        for wrong in (0, 100, -1, -FAR, FAR):
            self.assertEqual(last(picture(1, 1, 1, [5]), values(wrong)), [-1])

    def test_missing(self):
        for key in (1, 3, 99):
            self.assertEqual(last(picture(2, 1, 1, [5]), values(key)), [-4])

    def test_replaced(self):
        self.assertEqual(last(picture(2, 1, 1, [5]), picture(2, 1, 2, [6, 7]), values(2)), [1, 2, 6, 7])


if __name__ == "__main__":
    unittest.main()
