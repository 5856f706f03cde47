"""How calls are handed in and how answers are given back."""

import unittest

from packedframes.house import answers
from support import (FAR, burst, check, code, copy, drop, errors, flip, give, joined, keep, lose, merge, noise, pack,
                     packet, packets, picture, pictures, predict, ramp, run, same, sizes, slices, streams, turn, twice,
                     unpack, values)

LINE = [
    picture(1, 4, 5, noise(4, 5, 1)), picture(2, 4, 5, ramp(4, 5)), values(1), pack(1, 3), pack(2, 3, 1),
    packet(1, 0), packets(2), flip(1, 0, 2, 3), burst(2, 1, 8, 99), lose(1, 1), twice(2, 0), turn(2),
    give(1, [1, 2, 3]), give(1, []), slices(1), unpack(2), picture(1, 1, 1, []), pack(9, 1), flip(2, 0, 9999, 0),
    errors(1), sizes(2, 3, 4), copy(1, 9), merge(9, 2), keep(2, 8), same(2, 8), drop(8), check([7, 8]), check([]),
    code(3, 90), predict(4, 1, 2, 3), pictures(), streams(), copy(2, 1), same(1, 9), check([256]), code(11, 0),
]


class AnswersTest(unittest.TestCase):
    def test_written_out(self):
        calls = [0, 5, 2, 1, 2, 7, 8, 1, 5, 1, 6, 0, 5, 2, 1, 1, 7, 2, 5, 1, 0, 11, 5, 4, 5, 9, 5]
        self.assertEqual(answers(calls)[:8], [1, 0, 4, 2, 1, 7, 8, 1])
        self.assertEqual(answers(calls)[8:12], [-4, 1, -1, 1])
        size = answers(calls)[12]
        self.assertEqual(answers(calls)[13:], [2, 1, 2, 2, 1, size, 1, 1])

    def test_each_call_alone_on_a_new_house(self):
        for call in LINE:
            told = answers(list(call))
            self.assertEqual(told[0], len(told) - 1)

    def test_new_calls_written_out(self):
        calls = [0, 5, 1, 2, 2, 512, 512, 2, 5, 2, 0, 7, 5, 0, 13, 5, 14, 5, 1, 0, 15, 5, 8, 16, 5, 8, 17, 8, 6,
                 19, 5, 6, 18, 6, 20, 0, 21, 2, 6, 22, 3, 1, 2, 3, 23, 24, 20, 1, 256]
        self.assertEqual(answers(calls), [1, 0, 2, 15, 15, 1, 1, 2, 0, 0, 1, 15, 1, 0, 1, 1, 1, 0,
                                          1, 1, 1, 0, 1, 4294967295, 5, 4, 1, 0, 1, 0, 2, 0, 1, 2, 1, 5, 3, 2, 5, 8,
                                          1, -1])

    def test_calls_without_numbers_on_a_new_house(self):
        self.assertEqual(answers([23]), [1, 0])
        self.assertEqual(answers([24, 24, 23]), [1, 0] * 3)

    def test_every_number_of_every_call_may_be_far_off(self):
        base = [picture(1, 2, 3, ramp(2, 3)), pack(1, 2)]
        calls = [picture(1, 2, 1, [1, 2]), values(1), pack(1, 1), packet(1, 0), packets(1), flip(1, 0, 0, 0),
                 burst(1, 0, 0, 1), lose(1, 0), twice(1, 0), turn(1), give(1, [1]), slices(1), unpack(1), errors(1),
                 sizes(1, 1, 1), copy(1, 2), merge(1, 1), keep(1, 2), drop(1), same(1, 1), check([1, 2]), code(1, 1),
                 predict(1, 1, 1, 1)]
        self.assertEqual([call[0] for call in calls], list(range(23)))
        counts = {0: 4, 10: 2, 20: 1}
        for call in calls:
            for place in range(1, len(call)):
                if place != counts.get(call[0]):
                    for far in (-FAR, FAR):
                        wrong = call[:place] + [far] + call[place + 1:]
                        told = run(*base, wrong, slices(1))
                        self.assertEqual(told[2:], [[-1], [2, 2, 2]], wrong)

    def test_empty_rows_are_passed(self):
        self.assertEqual(answers([0, 1, 1, 1, 0, 1, 1]), [1, -1, 1, -4])
        self.assertEqual(answers([10, 1, 0, 10, 1, 2, 500, 7, 4, 1]), [1, -4, 1, -1, 1, -4])
        self.assertEqual(answers([20, 0, 20, 2, 500, 7, 20, 0, 4, 1]), [1, 4294967295, 1, -1, 1, 4294967295, 1, -4])

    def test_refused_rows_are_passed_whole(self):
        self.assertEqual(answers([0, 100, 1, 1, 3, 1, 1, 1, 1, 1]), [1, -1, 1, -4])

    def test_what_is_handed_in_stays(self):
        calls = joined(LINE)
        kept = list(calls)
        answers(calls)
        self.assertEqual(calls, kept)

    def test_what_is_given_back_is_apart(self):
        calls = joined(LINE)
        told = answers(calls)
        kept = list(told)
        told.clear()
        self.assertEqual(answers(calls), kept)

    def test_the_same_twice(self):
        calls = joined(LINE)
        self.assertEqual(answers(calls), answers(calls))
        self.assertEqual(answers(list(calls)), answers(calls))

    def test_nothing_is_kept(self):
        first = answers(joined(LINE))
        six = [picture(key, 1, 1, [key]) for key in range(1, 7)]
        answers(joined(six + [pack(key) for key in range(1, 7)]))
        self.assertEqual(answers([1, 1, 4, 1, 11, 1, 23, 24]), [1, -4, 1, -4, 1, -4, 1, 0, 1, 0])
        self.assertEqual(answers(joined(LINE)), first)
        # The next stamp is 1 again.
        self.assertEqual(run(picture(1, 1, 1, [1]), pack(1), packet(1, 0))[-1][1:3], [0, 1])

    def test_whole_numbers_in_a_list(self):
        told = answers(joined(LINE))
        self.assertIs(type(told), list)
        self.assertEqual({type(number) for number in told}, {int})


if __name__ == "__main__":
    unittest.main()
