"""[5], [6], [110]: sums, numbers picked for a goal, and free places."""

import unittest
from itertools import combinations

from helper import Case, mixed, things
from onceroad.errors import NoNumbers
from onceroad.sums import free_of, picks

TOP = 2 ** 30 - 1


def sum_at(numbers, places):
    total = 0
    for at in places:
        total ^= numbers[at]
    return total


def all_choices(places):
    return [choice for many in range(len(places) + 1) for choice in combinations(places, many)]


def drawn(many, high, turn):
    """So many numbers from 0 to high, which hang on the turn alone."""
    state, found = turn, []
    for _ in range(many):
        state = (state * 6364136223846793005 + 1442695040888963407) % 2 ** 64
        found.append((state >> 33) % (high + 1))
    return found


def lists_of_numbers():
    found = [[], [0], [0, 0], [5], [5, 5], [TOP], [TOP, 0, TOP], [1, 2, 3], [3, 1, 2, 0], [4, 8, 12, 1, 5, 13]]
    for turn in range(40):
        found.append(drawn(turn % 9, (1, 3, 7, 15, 63, TOP)[turn % 6], turn))
    return found


class Picked(Case):
    def looks_at(self, numbers, goal, told):
        self.assertIs(type(told), list)
        self.assertEqual(told, sorted(set(told)))
        self.assertTrue(all(type(at) is int and 0 <= at < len(numbers) for at in told))
        self.assertEqual(sum_at(numbers, told), goal)

    def test_against_trying_all_choices(self):
        for turn, numbers in enumerate(lists_of_numbers()):
            sums = {sum_at(numbers, choice) for choice in all_choices(range(len(numbers)))}
            for goal in sorted(sums) + drawn(8, 15, turn) + drawn(3, TOP, turn) + [0, TOP]:
                told = picks(numbers, goal)
                if goal in sums:
                    self.looks_at(numbers, goal, told)
                else:
                    self.assertIsNone(told)

    def test_forty_numbers_by_their_sum(self):
        for turn in range(30):
            numbers = drawn(40, TOP, turn)
            choice = mixed(range(40), turn)[:turn + 5]
            goal = sum_at(numbers, choice)
            self.looks_at(numbers, goal, picks(numbers, goal))
        for turn in range(30):
            numbers = [number & ~1 for number in drawn(40, TOP, turn)]
            self.assertIsNone(picks(numbers, 1))
            self.looks_at(numbers, sum_at(numbers, range(40)), picks(numbers, sum_at(numbers, range(40))))

    def test_single_bits(self):
        numbers = [2 ** at for at in range(30)]
        self.assertEqual(picks(numbers, TOP), list(range(30)))
        self.assertEqual(picks(numbers[::-1], 2 ** 29 + 1), [0, 29])
        self.assertIsNone(picks(numbers[1:], 1))

    def test_the_goal_0(self):
        for numbers in lists_of_numbers():
            self.looks_at(numbers, 0, picks(numbers, 0))
        self.assertEqual(picks([], 0), [])
        self.assertEqual(picks([5], 0), [])

    def test_no_places_have_it(self):
        self.assertIsNone(picks([], 1))
        self.assertIsNone(picks([0, 0], TOP))
        self.assertIsNone(picks([6, 3, 5], 1))
        self.assertIsNone(picks([TOP], 1))


class Free(Case):
    def test_against_the_words(self):
        for numbers in lists_of_numbers():
            told = [at for at in range(len(numbers))
                    if numbers[at] not in {sum_at(numbers, choice) for choice in all_choices(range(at))}]
            self.assertEqual(free_of(numbers), told)

    def test_each_sum_is_that_of_just_one_choice_of_free_ones(self):
        for numbers in lists_of_numbers():
            sums = {sum_at(numbers, choice) for choice in all_choices(range(len(numbers)))}
            by_free = [sum_at(numbers, choice) for choice in all_choices(free_of(numbers))]
            self.assertEqual((len(by_free), set(by_free)), (len(sums), sums))

    def test_forty_numbers(self):
        for turn in range(20):
            numbers = drawn(40, TOP, turn)
            told = free_of(numbers)
            self.assertLessEqual(len(told), 30)
            for at in range(40):
                ahead = [numbers[one] for one in told if one < at]
                self.assertEqual(at in told, picks(ahead, numbers[at]) is None)

    def test_some(self):
        self.assertEqual(free_of([]), [])
        self.assertEqual(free_of([0]), [])
        self.assertEqual(free_of([0, 7, 0, 7, 5]), [1, 4])
        self.assertEqual(free_of([1, 2, 3, 4]), [0, 1, 3])
        self.assertEqual(free_of([3, 2, 1, TOP]), [0, 1, 3])
        self.assertEqual(free_of([2 ** at for at in range(30)] + [TOP] * 10), list(range(30)))
        told = free_of([4, 6])
        self.assertEqual((type(told), type(told[0])), (list, int))


class Refused(Case):
    def test_no_numbers(self):
        wrong = [thing for thing in things() if not isinstance(thing, list) or thing != []]
        wrong += [[0] * 41, [2 ** 30], [-1], [True], [1, False], [None], ["1"], [[1]], [(1,)], (1,), (), {1: 1}, 3, "12"]
        for thing in wrong:
            self.refuses(NoNumbers, thing, picks, thing, 0)
            self.refuses(NoNumbers, thing, free_of, thing)
            for goal in (None, -1, True, [0]):
                self.refuses(NoNumbers, thing, picks, thing, goal)

    def test_no_goal(self):
        wrong = [thing for thing in things() if isinstance(thing, bool) or thing not in (0, 1, 7)]
        for thing in wrong + [2 ** 30, -1, True, False, None, "0", [0], (0,), {}]:
            self.refuses(NoNumbers, thing, picks, [1, 2], thing)
            self.refuses(NoNumbers, thing, picks, [], thing)

    def test_the_greatest_that_are_taken(self):
        self.assertEqual(picks([TOP], TOP), [0])
        self.assertEqual(picks([0] * 39 + [TOP], TOP), [39])
        self.assertEqual(free_of([0] * 39 + [TOP]), [39])
        many, high = [0] * 41, [TOP, TOP + 1]
        self.refuses(NoNumbers, many, free_of, many)
        self.refuses(NoNumbers, high, free_of, high)

    def test_what_is_handed_in_stays_and_lists_are_new(self):
        for thing in things() + [[1, 2, 3]]:
            self.keeps(free_of, thing)
            self.keeps(picks, thing, thing)
            self.keeps(picks, thing, 3)
        numbers = [1, 2, 3]
        picks(numbers, 3).clear()
        free_of(numbers).clear()
        self.assertEqual((numbers, free_of(numbers), sum_at(numbers, picks(numbers, 3))), ([1, 2, 3], [0, 1], 3))

    def test_the_same_question_has_the_same_answer(self):
        for turn in range(5):
            numbers = drawn(40, 1023, turn)
            self.assertEqual(picks(numbers, 77), picks(list(numbers), 77))
            self.assertEqual(free_of(numbers), free_of(list(numbers)))


if __name__ == "__main__":
    unittest.main()
