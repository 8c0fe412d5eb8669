"""[11], which works fit a leaf and how often one counts; [12], the fitting masks; [2], what is handed in and given."""

import copy
import unittest

from court.fits import fits, fitting, often_of

GREATEST = 10**60 - 1
LOGIC = ("logic", "maths", 5, 50)
WORKS = [LOGIC, ("algebra", "maths", 1, 90), ("paint", "art", 0, 0), ("zoo", "bio", 9, 100)]


def from_leaf(fields, level=0, mark=0, want=1, worth=1):
    return ("from", want, fields, level, mark, worth)


def of_leaf(names, mark=0, want=1, worth=1):
    return ("of", want, names, mark, worth)


class FromLeaves(unittest.TestCase):
    def check(self, leaf, work, told):
        with self.subTest(leaf=leaf, work=work):
            self.assertIs(fits(leaf, work), told)

    def test_no_fields_means_any(self):
        for work in WORKS:
            self.check(from_leaf([]), work, True)

    def test_fields_with_and_without_the_works(self):
        self.check(from_leaf(["maths"]), LOGIC, True)
        self.check(from_leaf(["art", "maths"]), LOGIC, True)
        self.check(from_leaf(["maths", "art"]), LOGIC, True)
        self.check(from_leaf(["a", "b", "c", "d", "e", "f", "g", "maths"]), LOGIC, True)
        self.check(from_leaf(["art"]), LOGIC, False)
        self.check(from_leaf(["art", "bio"]), LOGIC, False)

    def test_the_name_is_no_field(self):
        self.check(from_leaf(["logic"]), LOGIC, False)

    def test_the_level(self):
        for fields in [[], ["maths"]]:
            self.check(from_leaf(fields, level=4), LOGIC, True)
            self.check(from_leaf(fields, level=5), LOGIC, True)
            self.check(from_leaf(fields, level=6), LOGIC, False)

    def test_the_mark(self):
        for fields in [[], ["maths"]]:
            self.check(from_leaf(fields, mark=49), LOGIC, True)
            self.check(from_leaf(fields, mark=50), LOGIC, True)
            self.check(from_leaf(fields, mark=51), LOGIC, False)

    def test_all_are_asked_together(self):
        self.check(from_leaf(["maths"], level=5, mark=50), LOGIC, True)
        self.check(from_leaf(["maths"], level=6, mark=50), LOGIC, False)
        self.check(from_leaf(["maths"], level=5, mark=51), LOGIC, False)
        self.check(from_leaf(["art"], level=5, mark=50), LOGIC, False)
        # 20 lies between the work's level and its mark, so one held against the other would be seen.
        self.check(from_leaf([], level=20), LOGIC, False)
        self.check(from_leaf([], mark=20), LOGIC, True)

    def test_the_greatest_numbers(self):
        work = ("logic", "maths", GREATEST, GREATEST)
        self.check(from_leaf([], level=GREATEST, mark=GREATEST), work, True)
        self.check(from_leaf([], level=GREATEST), ("logic", "maths", GREATEST - 1, GREATEST), False)
        self.check(from_leaf([], mark=GREATEST), ("logic", "maths", GREATEST, GREATEST - 1), False)

    def test_level_and_mark_0(self):
        self.check(from_leaf([]), ("logic", "maths", 0, 0), True)
        self.check(from_leaf([], level=1), ("logic", "maths", 0, 0), False)
        self.check(from_leaf([], mark=1), ("logic", "maths", 0, 0), False)

    def test_want_and_worth_do_not_matter(self):
        for want in [0, 1, 60]:
            for worth in [1, 9]:
                self.check(from_leaf(["maths"], 5, 50, want, worth), LOGIC, True)
                self.check(from_leaf(["art"], 5, 50, want, worth), LOGIC, False)

    def test_the_beginning_or_end_of_a_word_is_another_word(self):
        for field in ["math", "aths", "m", "s", "mathss", "amaths", "mathsmaths"]:
            self.check(from_leaf([field]), LOGIC, False)
            self.check(from_leaf(["art", field]), LOGIC, False)
        self.check(from_leaf(["ma", "ths"]), LOGIC, False)


class OfLeaves(unittest.TestCase):
    def check(self, leaf, work, told):
        with self.subTest(leaf=leaf, work=work):
            self.assertIs(fits(leaf, work), told)

    def test_with_and_without_the_name(self):
        self.check(of_leaf(["logic"]), LOGIC, True)
        self.check(of_leaf(["algebra", "logic"]), LOGIC, True)
        self.check(of_leaf(["logic", "algebra"]), LOGIC, True)
        self.check(of_leaf(["algebra"]), LOGIC, False)
        self.check(of_leaf(["algebra", "zoo"]), LOGIC, False)

    def test_the_field_is_no_name(self):
        self.check(of_leaf(["maths"]), LOGIC, False)

    def test_the_mark(self):
        self.check(of_leaf(["logic"], mark=49), LOGIC, True)
        self.check(of_leaf(["logic"], mark=50), LOGIC, True)
        self.check(of_leaf(["logic"], mark=51), LOGIC, False)
        self.check(of_leaf(["algebra"], mark=49), LOGIC, False)

    def test_a_low_level_fits(self):
        self.check(of_leaf(["logic"], mark=50), ("logic", "maths", 0, 50), True)
        self.check(of_leaf(["logic"], mark=50), ("logic", "maths", GREATEST, 49), False)

    def test_want_and_worth_do_not_matter(self):
        for want in [0, 1, 60]:
            for worth in [1, 9]:
                self.check(of_leaf(["logic"], 0, want, worth), ("logic", "maths", 0, 0), True)
                self.check(of_leaf(["zoo"], 0, want, worth), ("logic", "maths", 9, 9), False)

    def test_the_beginning_or_end_of_a_word_is_another_word(self):
        for name in ["log", "ogic", "l", "c", "logics", "alogic", "logiclogic"]:
            self.check(of_leaf([name]), LOGIC, False)
            self.check(of_leaf(["zoo", name]), LOGIC, False)
        self.check(of_leaf(["lo", "gic"]), LOGIC, False)

    def test_what_is_handed_in_stays(self):
        leaf = of_leaf(["logic", "zoo"])
        other = from_leaf(["maths", "bio"])
        for _ in range(2):
            self.assertIs(fits(leaf, LOGIC), True)
            self.assertIs(fits(other, LOGIC), True)
        self.assertEqual(leaf, of_leaf(["logic", "zoo"]))
        self.assertEqual(other, from_leaf(["maths", "bio"]))


class Oftens(unittest.TestCase):
    def test_no_oftens(self):
        self.assertEqual(often_of(([], from_leaf([])), LOGIC), 1)

    def test_with_and_without_an_often_of_the_field(self):
        course = ([("art", 2), ("maths", 9), ("bio", 1)], from_leaf([]))
        self.assertEqual([often_of(course, work) for work in WORKS], [9, 9, 2, 1])
        self.assertEqual(often_of(course, ("logic", "music", 5, 50)), 1)

    def test_the_name_has_no_often(self):
        self.assertEqual(often_of(([("logic", 5)], from_leaf([])), LOGIC), 1)

    def test_the_beginning_or_end_of_a_word_is_another_word(self):
        for field in ["math", "aths", "mathss", "amaths"]:
            self.assertEqual(often_of(([(field, 5)], from_leaf([])), LOGIC), 1)
            self.assertEqual(often_of(([(field, 5), ("maths", 3)], from_leaf([])), LOGIC), 3)

    def test_sixteen_oftens(self):
        oftens = [("f" * (place + 1), 1 + place % 9) for place in range(12)] + [("g", 2), ("h", 3), ("k", 4), ("l", 5)]
        course = (oftens, from_leaf([]))
        for field, often in oftens:
            self.assertEqual(often_of(course, ("logic", field, 0, 0)), often)

    def test_the_course_stays(self):
        course = ([("art", 2), ("maths", 9)], from_leaf(["art"]))
        before = copy.deepcopy(course)
        self.assertEqual(often_of(course, LOGIC), 9)
        self.assertEqual(often_of(course, LOGIC), 9)
        self.assertEqual(course, before)


class Masks(unittest.TestCase):
    COURSE = (
        [("maths", 2)],
        (
            "all",
            [
                from_leaf(["maths"]),
                ("some", 1, [of_leaf(["paint"]), ("all", [from_leaf([])]), of_leaf(["none"])]),
                from_leaf(["bio", "maths"], level=5),
                of_leaf(["zoo", "algebra", "logic"], mark=90),
            ],
        ),
    )

    def test_no_works(self):
        self.assertEqual(fitting(([], from_leaf([])), []), [0])
        self.assertEqual(fitting(self.COURSE, []), [0, 0, 0, 0, 0, 0])

    def test_one_leaf(self):
        self.assertEqual(fitting(([], from_leaf([])), WORKS), [0b1111])
        self.assertEqual(fitting(([], from_leaf(["maths"])), WORKS), [0b0011])
        self.assertEqual(fitting(([], from_leaf(["music"])), WORKS), [0])
        self.assertEqual(fitting(([], of_leaf(["zoo", "logic"])), WORKS), [0b1001])

    def test_none_some_and_all_in_the_order_of_the_leaves(self):
        self.assertEqual(fitting(self.COURSE, WORKS), [0b0011, 0b0100, 0b1111, 0, 0b1001, 0b1010])

    def test_works_that_fit_no_leaf_and_every_leaf(self):
        course = ([], ("all", [from_leaf(["maths"]), of_leaf(["logic", "paint"], mark=50)]))
        self.assertEqual(fitting(course, WORKS[2:]), [0, 0])
        self.assertEqual(fitting(course, WORKS), [0b0011, 0b0001])

    def test_places_are_those_in_the_list(self):
        self.assertEqual(fitting(([], from_leaf(["maths"])), WORKS[::-1]), [0b1100])

    def test_eighty_works_and_sixteen_leaves(self):
        works = [("w" + "abcdefgh"[place // 10] + "abcdefghij"[place % 10], "maths", place, 0) for place in range(80)]
        course = ([], ("all", [from_leaf(["maths"], level=5 * number) for number in range(16)]))
        whole = (1 << 80) - 1
        self.assertEqual(fitting(course, works), [whole - ((1 << (5 * number)) - 1) for number in range(16)])

    def test_each_mask_is_a_whole_number(self):
        for mask in fitting(self.COURSE, WORKS):
            self.assertIs(type(mask), int)

    def test_course_and_works_stay(self):
        course = copy.deepcopy(self.COURSE)
        works = list(WORKS)
        first = fitting(course, works)
        self.assertEqual(course, self.COURSE)
        self.assertEqual(works, WORKS)
        self.assertEqual(fitting(course, works), first)

    def test_what_was_told_is_the_askers_own(self):
        first = fitting(self.COURSE, WORKS)
        second = fitting(self.COURSE, WORKS)
        self.assertIs(type(first), list)
        self.assertIsNot(first, second)
        first.append(7)
        self.assertEqual(fitting(self.COURSE, WORKS), second)


if __name__ == "__main__":
    unittest.main()
