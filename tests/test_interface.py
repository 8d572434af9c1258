"""The form of what is handed in and given back, and the document's example."""

import random
import unittest

from postalhouse.house import answers
from tests.helper import COUNTS, HUGE, NAMES, NUMBERS, Play, split, split_answers

TRIP = [0, 1, 0, 1, 600, 120, 5]
POST = [2, 0, 7, 1, 4, 0, 0, 0, 30, 2]
EXAMPLE = TRIP + POST + [
    3, 721,
    7, 1, 9,
    7, 1, 9,
    8, 1,
    9, 7, 0,
    12, 0,
    11, 5, 0,
    12, 0,
    12, 0,
]
EXAMPLE_ANSWERS = [
    1, 1,
    2, 0, 720,
    2, 721, 2,
    2, 1, 1,
    2, 1, 2,
    1, 1,
    2, 0, 30,
    1, -6,
    1, 1,
    2, 30, 0,
    1, -7,
]


# The same line goes on: all that can be asked behind the example.
ASKED = [
    16, 7,
    17, 0,
    17, 1,
    18, 0, 7,
    18, 1, 7,
    18, 2, 7,
    19, 0,
    19, 1,
    20, 0, 721, 1,
    20, 1, 721, 1,
    20, 1, 721, 0,
    21, 0, 1, 2160,
    21, 0, 1, 2159,
    22, 0,
    22, 1,
    23,
    24,
    25,
    27,
    26, 9,
    26, 2,
    26, 10,
    15,
    22, 0,
    27,
    14, 7,
]
ASKED_ANSWERS = [
    8, 0, 5, 0, 1, 720, 0, 0, 0,
    5, 0, 0, 0, 0, 0,
    5, 0, 0, 0, 0, 0,
    4, 3, 11, 1, 721,
    4, 4, 11, 1, 721,
    1, 0,
    5, 3, 3, 0, 1, 5,
    6, 4, 4, 2, 3, 4, 5,
    3, 2160, 1, 1,
    3, 721, -1, -1,
    1, -8,
    1, 2040,
    1, -8,
    4, 0, -28, 30, 0,
    4, 0, 30, 0, 30,
    2, 0, 0,
    8, 1, 6, 7, 30, 1, 0, 5, 1,
    2, 0, 0,
    6, 721, 1, 6, 9, 32, 30,
    13, 721, 1, 6, 0, 1, 32, 30, 5, -28, 30, 0, 0, 0,
    13, 0, 1, 1, 0, 0, 2, 0, 5, 2, 0, 0, 0, 0,
    1, -1,
    7, 0, 5, 30, -30, 0, 0, 0,
    4, 0, 2, 0, 0,
    6, 721, 1, 6, 10, 32, 30,
    1, -6,
]


def example_play():
    play = Play()
    for number, given in split(EXAMPLE):
        play.do(NAMES[number], *given)
    return play


class Example(unittest.TestCase):
    def test_the_document_s_example(self):
        self.assertEqual(answers(EXAMPLE), EXAMPLE_ANSWERS)

    def test_30_are_owed_by_1_to_0(self):
        house = example_play().house()
        self.assertEqual(house.debts, [[0] * 5, [30, 0, 0, 0, 0], [0] * 5, [0] * 5, [0] * 5])
        self.assertEqual(house.cash, [2 - 30, 30, 0, 0, 0])
        self.assertEqual((house.came_in, house.went_out), (32, 30))
        self.assertEqual([told.kind for told in house.messages], [0, 2, 1, 3, 6, 11])

    def test_what_is_asked_behind_it(self):
        self.assertEqual(answers(EXAMPLE + ASKED), EXAMPLE_ANSWERS + ASKED_ANSWERS)

    def test_it_stands_in_the_bins_and_on_the_run(self):
        play = Play()
        for number, given in split(TRIP + POST):
            play.do(NAMES[number], *given)
        self.assertEqual(play.do("office", 0), [0, 1, 7, 0, 0, 0])
        play.on(601)
        self.assertEqual(play.do("item", 7), [0, 1, 1, 0, 720, 0, 0, 0])
        self.assertEqual(play.do("runs"), [1, 4, 1, 0, 720, 1])
        play.on(721)
        self.assertEqual(play.do("office", 1), [0, 1, 7, 0, 0, 0])
        self.assertEqual(play.do("runs"), [0, 0])


class Form(unittest.TestCase):
    def test_one_call(self):
        self.assertEqual(answers(TRIP), [1, 1])

    def test_each_call_has_its_number_and_width(self):
        for name, number in NUMBERS.items():
            calls = [number] + [HUGE] * COUNTS[name] + [3, 5]
            self.assertEqual(answers(calls)[-3:], [2, 5, 0], name)
            self.assertEqual(len(split_answers(answers(calls))), 2, name)

    def test_numbers_of_any_size_are_refused(self):
        unknown = ("cancel", "lose", "hand", "pickup", "payout", "claim", "giveback", "item")
        for name, number in NUMBERS.items():
            if COUNTS[name] == 0:
                continue
            for size in (HUGE, -HUGE):
                calls = [number] + [size] * COUNTS[name]
                self.assertEqual(answers(calls), [1, -5 if name in unknown else -1], name)

    def test_calls_without_numbers_are_never_refused(self):
        self.assertEqual(answers([15]), [7, 0, 5, 0, 0, 0, 0, 0])
        self.assertEqual(answers([23, 24, 25]), [2, 0, 0] * 3)
        self.assertEqual(answers([27]), [6, 0, 0, 0, 0, 0, 0])

    def test_answers_are_whole_numbers_in_a_list(self):
        given = answers(EXAMPLE + [4, 7, 0, 5, 1, 6, 0, 7, 10, 7, 13, 7, 1, 1, 4] + ASKED)
        self.assertEqual(type(given), list)
        self.assertEqual({type(number) for number in given}, {int})

    def test_what_is_handed_in_is_the_same_afterwards(self):
        calls = EXAMPLE + ASKED
        answers(calls)
        self.assertEqual(calls, EXAMPLE + ASKED)

    def test_what_is_handed_in_is_not_changed_for_a_while_either(self):
        class Watched(list):
            def refuse(self, *given):
                raise AssertionError("changed")

            __setitem__ = __delitem__ = __iadd__ = __imul__ = refuse
            append = extend = insert = pop = remove = clear = reverse = sort = refuse

        self.assertEqual(answers(Watched(EXAMPLE + ASKED)), EXAMPLE_ANSWERS + ASKED_ANSWERS)

    def test_nothing_is_kept_from_one_time_to_the_next(self):
        self.assertEqual(answers(EXAMPLE), EXAMPLE_ANSWERS)
        self.assertEqual(answers(EXAMPLE), EXAMPLE_ANSWERS)
        self.assertEqual(answers(TRIP), [1, 1])
        self.assertEqual(answers([9, 7, 0]), [1, -5])
        self.assertEqual(answers([27, 26, 1]), [6, 0, 0, 0, 0, 0, 0, 1, -1])

    def test_the_answers_are_a_list_of_their_own(self):
        first = answers(EXAMPLE)
        first.clear()
        self.assertEqual(answers(EXAMPLE), EXAMPLE_ANSWERS)

    def test_400_calls_of_every_length(self):
        calls = list(TRIP)
        for number in range(1, 400):
            calls += [2, 0, number, 1, 0, 0, 0, 0, 0, 0]
        given = answers(calls)
        self.assertEqual(given[:2], [1, 1])
        self.assertEqual(given[2:62], [2, 0, 720] * 20)
        self.assertEqual(given[62:], [1, -3] * 379)

    def test_40_times_on(self):
        calls = []
        for number in range(1, 7):
            calls += [0, number, number % 4, (number + 1) % 4, 200 * number, 2880, 20]
        for number in range(1, 21):
            calls += [2, number % 4, number, (number + 2) % 4, 0, 0, 0, 0, 0, 0]
        for step in range(1, 41):
            calls += [3, 1000 * step]
        given = answers(calls)
        self.assertEqual(given[-3:], [2, 40000, 0])
        self.assertEqual(len(given), 2 * 6 + 3 * 20 + 3 * 40)


    def test_400_calls_of_all_kinds_with_numbers_of_all_sizes(self):
        source = random.Random(3)
        sizes = (-HUGE, -1, 0, 1, 2, 3, 4, 5, 7, 20, 21, 100, 999, 1000, 40000, 40001, 100000, 100001, HUGE)
        for turn in range(20):
            calls = EXAMPLE + ASKED
            for number in range(400 - len(split(calls))):
                name = source.choice([name for name in NAMES if name != "on"])
                calls += [NUMBERS[name]] + [source.choice(sizes) for place in range(COUNTS[name])]
            kept = list(calls)
            given = answers(calls)
            self.assertEqual(calls, kept)
            self.assertEqual(given, answers(kept))
            parts = split_answers(given)
            self.assertEqual(len(parts), 400)
            for part in parts:
                self.assertTrue(part[0] >= 0 or len(part) == 1)

    def test_a_line_of_1_call_of_each_kind(self):
        for name, number in NUMBERS.items():
            self.assertEqual(len(split_answers(answers([number] + [0] * COUNTS[name]))), 1, name)

    def test_a_post_without_a_way_is_no_refusal(self):
        play = Play()
        self.assertEqual(play.post(0, 1, 1), [0, -1])
        self.assertEqual(play.do("counts")[3], 1)


if __name__ == "__main__":
    unittest.main()
