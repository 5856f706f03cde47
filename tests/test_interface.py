"""How calls are handed in and how answers are given back."""

import unittest

from packedframes.house import answers
from support import (burst, flip, give, lose, noise, pack, packet, packets, picture, ramp, run, slices, turn, twice,
                     unpack, values)

LINE = [
    picture(1, 4, 5, noise(4, 5, 1)), picture(2, 4, 5, ramp(4, 5)), values(1), pack(1, 3), pack(2, 3, 1),
    packet(1, 0), packets(2), flip(1, 0, 2, 3), burst(2, 1, 8, 99), lose(1, 1), twice(2, 0), turn(2),
    give(1, [1, 2, 3]), give(1, []), slices(1), unpack(2), picture(1, 1, 1, []), pack(9, 1), flip(2, 0, 9999, 0),
]


def joined(calls):
    return [number for call in calls for number in call]


class AnswersTest(unittest.TestCase):
    def test_written_out(self):
        calls = [0, 5, 2, 1, 2, 7, 8, 1, 5, 1, 6, 0, 5, 2, 1, 1, 7, 2, 5, 1, 0, 11, 5, 4, 5, 9, 5]
        self.assertEqual(answers(calls)[:8], [1, 0, 4, 2, 1, 7, 8, 1])
        self.assertEqual(answers(calls)[8:12], [-4, 1, -1, 1])
        size = answers(calls)[12]
        self.assertEqual(answers(calls)[13:], [2, 1, 2, 2, 1, size, 1, 1])

    def test_each_call_alone_on_a_new_house(self):
        for call in LINE:
            told = answers(list(call))
            self.assertEqual(told[0], len(told) - 1)

    def test_empty_rows_are_passed(self):
        self.assertEqual(answers([0, 1, 1, 1, 0, 1, 1]), [1, -1, 1, -4])
        self.assertEqual(answers([10, 1, 0, 10, 1, 2, 500, 7, 4, 1]), [1, -4, 1, -1, 1, -4])

    def test_refused_rows_are_passed_whole(self):
        self.assertEqual(answers([0, 100, 1, 1, 3, 1, 1, 1, 1, 1]), [1, -1, 1, -4])

    def test_what_is_handed_in_stays(self):
        calls = joined(LINE)
        kept = list(calls)
        answers(calls)
        self.assertEqual(calls, kept)

    def test_what_is_given_back_is_apart(self):
        calls = joined(LINE)
        told = answers(calls)
        kept = list(told)
        told.clear()
        self.assertEqual(answers(calls), kept)

    def test_the_same_twice(self):
        calls = joined(LINE)
        self.assertEqual(answers(calls), answers(calls))
        self.assertEqual(answers(list(calls)), answers(calls))

    def test_nothing_is_kept(self):
        first = answers(joined(LINE))
        six = [picture(key, 1, 1, [key]) for key in range(1, 7)]
        answers(joined(six + [pack(key) for key in range(1, 7)]))
        self.assertEqual(answers([1, 1, 4, 1, 11, 1]), [1, -4, 1, -4, 1, -4])
        self.assertEqual(answers(joined(LINE)), first)
        # The next stamp is 1 again.
        self.assertEqual(run(picture(1, 1, 1, [1]), pack(1), packet(1, 0))[-1][1:3], [0, 1])

    def test_whole_numbers_in_a_list(self):
        told = answers(joined(LINE))
        self.assertIs(type(told), list)
        self.assertEqual({type(number) for number in told}, {int})


if __name__ == "__main__":
    unittest.main()
