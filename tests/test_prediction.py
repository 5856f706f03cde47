"""Predicted values, contexts and numbers."""

import unittest

from packedframes.prediction import context_at, context_of, number_of, predict, predicted, value_of


class PredictTest(unittest.TestCase):
    def test_with_three_neighbours(self):
        self.assertEqual(predict(0, 1, 2, 3), 512)
        self.assertEqual(predict(1, 100, 200, 300), 100)
        self.assertEqual(predict(2, 100, 200, 300), 200)
        self.assertEqual(predict(3, 100, 200, 150), 150)

    def test_mode_3_is_held_in_range(self):
        self.assertEqual(predict(3, 0, 0, 1), 0)
        self.assertEqual(predict(3, 1, 0, 1), 0)
        self.assertEqual(predict(3, 1023, 1, 0), 1023)
        self.assertEqual(predict(3, 1023, 1, 1), 1023)
        self.assertEqual(predict(3, 1023, 1023, 0), 1023)
        self.assertEqual(predict(3, 0, 0, 1023), 0)

    def test_mode_4(self):
        self.assertEqual(predict(4, 10, 20, 20), 10)
        self.assertEqual(predict(4, 10, 20, 500), 10)
        self.assertEqual(predict(4, 10, 20, 10), 20)
        self.assertEqual(predict(4, 10, 20, 0), 20)
        self.assertEqual(predict(4, 20, 10, 25), 10)
        self.assertEqual(predict(4, 20, 10, 5), 20)
        self.assertEqual(predict(4, 10, 20, 11), 19)
        self.assertEqual(predict(4, 20, 10, 19), 11)
        self.assertEqual(predict(4, 7, 7, 7), 7)

    def test_at_the_rim(self):
        greys = [5, 6, 7, 8, 9, 10]
        for mode in (1, 2, 3, 4):
            self.assertEqual(predicted(greys, 0, 3, mode, []), 512)
            self.assertEqual(predicted(greys, 1, 3, mode, []), 5)
            self.assertEqual(predicted(greys, 2, 3, mode, []), 6)
            self.assertEqual(predicted(greys, 3, 3, mode, []), 5)
        self.assertEqual([predicted(greys, n, 3, 0, []) for n in range(6)], [512] * 6)

    def test_inside(self):
        greys = [5, 6, 7, 8, 0, 0]
        self.assertEqual([predicted(greys, 4, 3, mode, []) for mode in (1, 2, 3, 4)], [8, 6, 9, 8])

    def test_by_reference(self):
        self.assertEqual([predicted([0, 0], n, 1, 5, [3, 4]) for n in (0, 1)], [3, 4])


class ContextTest(unittest.TestCase):
    def test_edges(self):
        self.assertEqual(context_of(5, 5, 5), 0)
        self.assertEqual(context_of(6, 6, 5), 0)
        self.assertEqual(context_of(4, 5, 6), 1)
        self.assertEqual(context_of(7, 6, 5), 1)
        self.assertEqual(context_of(20, 5, 5), 1)
        self.assertEqual(context_of(20, 4, 5), 2)
        self.assertEqual(context_of(0, 1023, 1023), 2)

    def test_at_the_rim(self):
        greys = [0, 1000, 0, 1000, 0, 1000]
        self.assertEqual([context_at(greys, n, 3) for n in range(6)], [0, 0, 0, 0, 2, 2])
        self.assertEqual([context_at(greys, n, 1) for n in range(6)], [0] * 6)


class NumberTest(unittest.TestCase):
    def test_ordinary(self):
        self.assertEqual([number_of(512 + d, 512) for d in (0, -1, 1, -2, 2)], [0, 1, 2, 3, 4])

    def test_edges(self):
        self.assertEqual(number_of(0, 512), 1023)
        self.assertEqual(number_of(1023, 512), 1022)
        self.assertEqual(number_of(512, 0), 1023)
        self.assertEqual(number_of(511, 0), 1022)
        self.assertEqual(number_of(513, 0), 1021)
        self.assertEqual(number_of(1023, 0), 1)
        self.assertEqual(number_of(0, 1023), 2)
        self.assertEqual(number_of(511, 1023), 1023)

    def test_way_back(self):
        for expected in (0, 1, 511, 512, 513, 700, 1022, 1023):
            numbers = [number_of(grey, expected) for grey in range(1024)]
            self.assertEqual(sorted(numbers), list(range(1024)))
            self.assertEqual([value_of(number, expected) for number in numbers], list(range(1024)))


if __name__ == "__main__":
    unittest.main()
