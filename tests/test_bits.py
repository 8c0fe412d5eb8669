"""[4], sets as bits; [2], what is handed in and what is given."""

import itertools
import unittest

from court.bits import either, first_of, has, last_of, less, mask_of, members, shared, size_of

LISTS = [[], [0], [200], [0, 200], [1, 2, 3], [3, 64, 63, 65, 128], list(range(201)), list(range(0, 201, 7))]


class Masks(unittest.TestCase):
    def test_the_empty_list(self):
        self.assertEqual(mask_of([]), 0)
        self.assertEqual(members(0), [])
        self.assertEqual(size_of(0), 0)
        self.assertFalse(has(0, 0))
        self.assertFalse(has(0, 200))

    def test_bit_k_is_worth_one_shifted_by_k(self):
        self.assertEqual(mask_of([0]), 1)
        self.assertEqual(mask_of([200]), 1 << 200)
        self.assertEqual(mask_of([0, 200]), (1 << 200) + 1)
        self.assertEqual(mask_of([1, 3]), 10)
        for number in range(201):
            self.assertEqual(mask_of([number]), 1 << number)

    def test_a_number_twice_counts_once(self):
        self.assertEqual(mask_of([5, 5]), 32)
        self.assertEqual(mask_of([200, 0, 200, 0, 0]), (1 << 200) + 1)

    def test_the_order_of_the_list_does_not_matter(self):
        for order in itertools.permutations([0, 9, 70, 200]):
            self.assertEqual(mask_of(list(order)), mask_of([0, 9, 70, 200]))

    def test_a_mask_is_a_whole_number(self):
        for numbers in LISTS:
            self.assertIs(type(mask_of(numbers)), int)

    def test_the_list_handed_in_stays(self):
        numbers = [7, 3, 7, 200, 0]
        mask_of(numbers)
        self.assertEqual(numbers, [7, 3, 7, 200, 0])

    def test_asked_again_the_same(self):
        for numbers in LISTS:
            self.assertEqual(mask_of(numbers), mask_of(numbers))


class Members(unittest.TestCase):
    def test_members_are_sorted_each_once(self):
        self.assertEqual(members(mask_of([9, 200, 4, 0, 9])), [0, 4, 9, 200])
        for numbers in LISTS:
            self.assertEqual(members(mask_of(numbers)), sorted(numbers))

    def test_members_are_a_new_list_each_time(self):
        mask = mask_of([1, 2])
        first = members(mask)
        second = members(mask)
        self.assertIs(type(first), list)
        self.assertIsNot(first, second)
        first.append(3)
        self.assertEqual(second, [1, 2])
        self.assertEqual(members(mask), [1, 2])
        none = members(0)
        none.append(3)
        self.assertEqual(members(0), [])

    def test_size_counts_the_members(self):
        for numbers in LISTS:
            self.assertEqual(size_of(mask_of(numbers)), len(numbers))
        self.assertEqual(size_of(mask_of([4, 4, 4])), 1)

    def test_has_tells_true_or_false(self):
        for numbers in LISTS:
            mask = mask_of(numbers)
            for number in range(210):
                self.assertIs(has(mask, number), number in numbers)

    def test_no_set_has_a_number_below_0(self):
        self.assertIs(has(mask_of([0, 1, 200]), -1), False)

    def test_first_is_the_least(self):
        for numbers in LISTS:
            if numbers:
                self.assertEqual(first_of(mask_of(numbers)), min(numbers))
        self.assertEqual(first_of(1), 0)
        self.assertEqual(first_of(1 << 200), 200)

    def test_first_of_the_set_of_none_is_none(self):
        self.assertIsNone(first_of(0))

    def test_last_is_the_greatest(self):
        for numbers in LISTS:
            if numbers:
                self.assertEqual(last_of(mask_of(numbers)), max(numbers))
        self.assertEqual(last_of(1), 0)
        self.assertEqual(last_of(1 << 200), 200)
        self.assertIsNone(last_of(0))


class TwoSets(unittest.TestCase):
    def check(self, one, other, both, any_of_both, first_alone):
        self.assertEqual(members(shared(mask_of(one), mask_of(other))), both)
        self.assertEqual(members(either(mask_of(one), mask_of(other))), any_of_both)
        self.assertEqual(members(less(mask_of(one), mask_of(other))), first_alone)

    def test_they_share_all(self):
        self.check([0, 5, 200], [0, 5, 200], [0, 5, 200], [0, 5, 200], [])

    def test_they_share_some(self):
        self.check([0, 5, 200], [5, 6], [5], [0, 5, 6, 200], [0, 200])
        self.check([5, 6], [0, 5, 200], [5], [0, 5, 6, 200], [6])

    def test_one_lies_within_the_other(self):
        self.check([0, 5, 200], [5], [5], [0, 5, 200], [0, 200])
        self.check([5], [0, 5, 200], [5], [0, 5, 200], [])

    def test_they_share_none(self):
        self.check([0, 2], [1, 200], [], [0, 1, 2, 200], [0, 2])
        self.check([1, 200], [0, 2], [], [0, 1, 2, 200], [1, 200])

    def test_one_is_the_set_of_none(self):
        self.check([], [1, 200], [], [1, 200], [])
        self.check([1, 200], [], [], [1, 200], [1, 200])
        self.check([], [], [], [], [])

    def test_as_sets_of_python_tell(self):
        for one, other in itertools.product(LISTS, LISTS):
            self.check(
                one,
                other,
                sorted(set(one) & set(other)),
                sorted(set(one) | set(other)),
                sorted(set(one) - set(other)),
            )


if __name__ == "__main__":
    unittest.main()
