"""[13], the choices of a course and their order; [14], how many there are; [2], what is handed in and given."""

import copy
import itertools
import math
import random
import unittest

from court.choices import choices, count_choices
from court.errors import CourtError, TooMany

LEAF = ("from", 1, [], 0, 0, 1)
OTHER_LEAF = ("of", 2, ["logic", "zoo"], 5, 3)


def every(*rules):
    return ("all", list(rules))


def some(many, *rules):
    return ("some", many, list(rules))


def leaves(many):
    return [LEAF, OTHER_LEAF] * (many // 2) + [LEAF] * (many % 2)


def course_of(rule, oftens=()):
    return (list(oftens), rule)


def size_of_rule(rule):
    if rule[0] in ("from", "of"):
        return 1
    return sum(size_of_rule(inner) for inner in rule[-1])


def told_by_the_words(rule, first=0):
    """The choices of a rule in the order of [13], by Python's own ways of taking and of putting together."""
    if rule[0] in ("from", "of"):
        return [[first]]
    parts = []
    for inner in rule[-1]:
        parts.append(told_by_the_words(inner, first))
        first += size_of_rule(inner)
    many = len(parts) if rule[0] == "all" else rule[1]
    found = []
    for taken in itertools.combinations(parts, many):
        for chosen in itertools.product(*taken):
            found.append(sum(chosen, []))
    return found


def drawn_rule(draw, depth, room):
    """A rule of at most `room` leaves, with at most `depth` groups within one another."""
    if depth == 0 or room == 1 or draw.random() < 0.3:
        return draw.choice([LEAF, OTHER_LEAF])
    rules = []
    while room > 0 and (not rules or draw.random() < 0.7):
        inner = drawn_rule(draw, depth - 1, room)
        rules.append(inner)
        room -= size_of_rule(inner)
    return draw.choice([("all", rules), ("some", draw.randint(1, len(rules)), rules)])


# Each with its choices, written out by hand.
LISTED = [
    (LEAF, [[0]]),
    (OTHER_LEAF, [[0]]),
    (every(LEAF), [[0]]),
    (some(1, LEAF), [[0]]),
    (every(*leaves(2)), [[0, 1]]),
    (every(*leaves(4)), [[0, 1, 2, 3]]),
    (some(1, *leaves(2)), [[0], [1]]),
    (some(2, *leaves(2)), [[0, 1]]),
    (some(1, *leaves(3)), [[0], [1], [2]]),
    (some(2, *leaves(3)), [[0, 1], [0, 2], [1, 2]]),
    (some(3, *leaves(3)), [[0, 1, 2]]),
    (some(2, *leaves(4)), [[0, 1], [0, 2], [0, 3], [1, 2], [1, 3], [2, 3]]),
    (some(3, *leaves(4)), [[0, 1, 2], [0, 1, 3], [0, 2, 3], [1, 2, 3]]),
    # Groups within groups; leaves of rules that are not taken count too.
    (every(every(every(LEAF))), [[0]]),
    (some(1, some(1, some(1, LEAF))), [[0]]),
    (some(1, every(*leaves(3)), LEAF), [[0, 1, 2], [3]]),
    (some(1, LEAF, every(*leaves(3)), LEAF), [[0], [1, 2, 3], [4]]),
    (every(some(1, *leaves(3)), LEAF), [[0, 3], [1, 3], [2, 3]]),
    (every(LEAF, some(1, *leaves(3))), [[0, 1], [0, 2], [0, 3]]),
    # First by the first rule's choice, then by the second's.
    (every(some(1, *leaves(2)), some(1, *leaves(3))), [[0, 2], [0, 3], [0, 4], [1, 2], [1, 3], [1, 4]]),
    (
        every(some(1, *leaves(2)), some(1, *leaves(2)), some(1, *leaves(2))),
        [[0, 2, 4], [0, 2, 5], [0, 3, 4], [0, 3, 5], [1, 2, 4], [1, 2, 5], [1, 3, 4], [1, 3, 5]],
    ),
    # First by the rules that are taken: all of the first two rules ahead of any of the first and the third. As lists
    # of leaf numbers [1, 2] would come behind [0, 3].
    (some(2, some(1, *leaves(2)), LEAF, LEAF), [[0, 2], [1, 2], [0, 3], [1, 3], [2, 3]]),
    (some(2, LEAF, some(1, *leaves(2)), LEAF), [[0, 1], [0, 2], [0, 3], [1, 3], [2, 3]]),
    (some(1, some(1, *leaves(2)), every(LEAF, some(1, *leaves(2)))), [[0], [1], [2, 3], [2, 4]]),
    # A rule's choices come in the rule's own order, which is not that of lists.
    (
        every(some(2, some(1, *leaves(2)), LEAF, LEAF), LEAF),
        [[0, 2, 4], [1, 2, 4], [0, 3, 4], [1, 3, 4], [2, 3, 4]],
    ),
    (
        some(2, some(2, some(1, *leaves(2)), LEAF, LEAF), LEAF, LEAF),
        [
            [0, 2, 4],
            [1, 2, 4],
            [0, 3, 4],
            [1, 3, 4],
            [2, 3, 4],
            [0, 2, 5],
            [1, 2, 5],
            [0, 3, 5],
            [1, 3, 5],
            [2, 3, 5],
            [4, 5],
        ],
    ),
    # A choice may be longer than another of the same rule.
    (some(1, LEAF, every(*leaves(2)), some(2, *leaves(3))), [[0], [1, 2], [3, 4], [3, 5], [4, 5]]),
    (every(*leaves(16)), [list(range(16))]),
    (some(16, *leaves(16)), [list(range(16))]),
    (some(1, *leaves(16)), [[number] for number in range(16)]),
    (some(15, *leaves(16)), [[k for k in range(16) if k != out] for out in range(15, -1, -1)]),
]

# Each with how many choices it has, far too many to list.
TAKEN = some(8, *leaves(16))
PAIRS = [some(1, *leaves(2)) for _ in range(8)]
COUNTED = [
    (TAKEN, math.comb(16, 8)),
    (some(2, *leaves(16)), 120),
    (every(TAKEN), math.comb(16, 8)),
    (some(1, every(some(1, TAKEN))), math.comb(16, 8)),
    (every(*PAIRS), 2**8),
    (some(8, *PAIRS), 2**8),
    (some(4, *PAIRS), math.comb(8, 4) * 2**4),
    (some(1, *PAIRS), 16),
    # Rules of 1, 2, 3 and 10 choices: the sums are those over all pairs and all threes of them.
    (some(2, *leaves(1), some(1, *leaves(2)), some(2, *leaves(3)), some(1, *leaves(10))), 71),
    (some(3, *leaves(1), some(1, *leaves(2)), some(2, *leaves(3)), some(1, *leaves(10))), 116),
    (some(4, *leaves(1), some(1, *leaves(2)), some(2, *leaves(3)), some(1, *leaves(10))), 60),
    (every(some(4, *leaves(8)), some(4, *leaves(8))), 70 * 70),
    (every(*[some(2, *leaves(4)) for _ in range(4)]), 6**4),
    (some(2, *[some(2, *leaves(4)) for _ in range(4)]), 6 * 6**2),
    (every(some(1, every(some(1, every(some(8, *leaves(16))))))), math.comb(16, 8)),
]


class Listed(unittest.TestCase):
    def test_each_in_its_order(self):
        for rule, told in LISTED:
            with self.subTest(rule=rule):
                self.assertEqual(choices(course_of(rule)), told)

    def test_oftens_do_not_matter(self):
        for rule, told in LISTED:
            course = course_of(rule, [("maths", 2), ("art", 9)])
            self.assertEqual(choices(course), told)
            self.assertEqual(count_choices(course), len(told))

    def test_what_a_leaf_tells_does_not_matter(self):
        for leaf in [("from", 0, ["a", "b"], 9, 9, 9), ("from", 60, [], 0, 0, 1), ("of", 0, ["a"], 0, 1)]:
            self.assertEqual(choices(course_of(leaf)), [[0]])
            self.assertEqual(choices(course_of(some(1, leaf, leaf))), [[0], [1]])

    def test_kinds_and_rising(self):
        for rule, _ in LISTED:
            told = choices(course_of(rule))
            self.assertIs(type(told), list)
            for choice in told:
                self.assertIs(type(choice), list)
                self.assertEqual({type(number) for number in choice}, {int})
                self.assertTrue(all(one < other for one, other in zip(choice, choice[1:])))

    def test_drawn_courses_by_the_words(self):
        draw = random.Random(5)
        listed = refused = 0
        for _ in range(600):
            rule = drawn_rule(draw, 6, 16)
            course = course_of(rule)
            told = told_by_the_words(rule)
            with self.subTest(rule=rule):
                self.assertEqual(count_choices(course), len(told))
                if len(told) <= 32:
                    listed += 1
                    self.assertEqual(choices(course), told)
                else:
                    refused += 1
                    self.assertRaises(TooMany, choices, course)
        self.assertGreater(listed, 100)
        self.assertGreater(refused, 20)

    def test_all_small_groups_by_the_words(self):
        inner = [LEAF, every(*leaves(2)), some(1, *leaves(2)), some(2, *leaves(3))]
        for size in range(1, 4):
            for rules in itertools.product(inner, repeat=size):
                for rule in [every(*rules)] + [some(many, *rules) for many in range(1, size + 1)]:
                    told = told_by_the_words(rule)
                    with self.subTest(rule=rule):
                        self.assertLessEqual(len(told), 32)
                        self.assertEqual(choices(course_of(rule)), told)
                        self.assertEqual(count_choices(course_of(rule)), len(told))

    def test_beyond_the_bounds_nothing_is_refused(self):
        self.assertEqual(choices(course_of(every(*leaves(40)))), [list(range(40))])
        self.assertEqual(choices(course_of(some(20, *leaves(20)))), [list(range(20))])
        rule = LEAF
        for _ in range(12):
            rule = every(some(1, rule))
        self.assertEqual(choices(course_of(rule)), [[0]])


class Counted(unittest.TestCase):
    def test_as_many_as_are_listed(self):
        for rule, told in LISTED:
            with self.subTest(rule=rule):
                number = count_choices(course_of(rule))
                self.assertEqual(number, len(told))
                self.assertIs(type(number), int)

    def test_very_many(self):
        for rule, number in COUNTED:
            with self.subTest(rule=rule):
                self.assertEqual(count_choices(course_of(rule)), number)

    def test_without_listing_them(self):
        # Beyond the bounds, so that a list of them would never end.
        course = course_of(every(*[some(8, *leaves(16)) for _ in range(16)]))
        self.assertEqual(count_choices(course), math.comb(16, 8) ** 16)
        self.assertRaises(TooMany, choices, course)
        course = course_of(some(8, *[some(8, *leaves(16)) for _ in range(16)]))
        self.assertEqual(count_choices(course), math.comb(16, 8) ** 9)
        self.assertRaises(TooMany, choices, course)


class Refused(unittest.TestCase):
    def check_refused(self, rule):
        with self.assertRaises(TooMany) as caught:
            choices(course_of(rule))
        self.assertEqual(caught.exception.most, 32)
        self.assertIs(type(caught.exception.most), int)
        self.assertIsInstance(caught.exception, CourtError)

    def test_32_are_listed(self):
        two, four, eight = [some(1, *leaves(many)) for many in (2, 4, 8)]
        for rule in [
            every(*PAIRS[:5]),
            some(5, *PAIRS[:5]),
            every(eight, four),
            some(1, every(four, eight)),
            some(2, two, four, four),
        ]:
            told = told_by_the_words(rule)
            with self.subTest(rule=rule):
                self.assertEqual(len(told), 32)
                self.assertEqual(choices(course_of(rule)), told)
                self.assertEqual(count_choices(course_of(rule)), 32)

    def test_33_are_refused(self):
        three, four, eleven = [some(1, *leaves(many)) for many in (3, 4, 11)]
        for rule in [
            every(three, eleven),
            some(2, three, eleven),
            some(1, every(eleven, three)),
            some(2, three, three, four),
        ]:
            with self.subTest(rule=rule):
                self.assertEqual(count_choices(course_of(rule)), 33)
                self.check_refused(rule)

    def test_groups_of_leaves_alone(self):
        # None of these has just 32 or 33.
        self.assertEqual(len(choices(course_of(some(2, *leaves(8))))), 28)
        self.check_refused(some(3, *leaves(7)))
        self.check_refused(some(4, *leaves(7)))
        self.check_refused(some(2, *leaves(9)))
        self.check_refused(some(7, *leaves(9)))

    def test_very_many_are_refused(self):
        for rule, number in COUNTED:
            if number > 32:
                with self.subTest(rule=rule):
                    self.check_refused(rule)

    def test_the_refused_course_stays(self):
        course = course_of(TAKEN, [("maths", 2)])
        before = copy.deepcopy(course)
        for _ in range(2):
            self.assertRaises(TooMany, choices, course)
            self.assertEqual(count_choices(course), math.comb(16, 8))
        self.assertEqual(course, before)


class HandedInAndGiven(unittest.TestCase):
    def test_the_course_stays_and_asked_again_the_same(self):
        for rule, told in LISTED:
            course = course_of(rule, [("maths", 2)])
            before = copy.deepcopy(course)
            for _ in range(2):
                self.assertEqual(choices(course), told)
                self.assertEqual(count_choices(course), len(told))
            self.assertEqual(course, before)

    def test_what_was_told_is_the_askers_own(self):
        for rule, told in LISTED:
            course = course_of(rule)
            first = choices(course)
            self.assertEqual(len({id(choice) for choice in first}), len(told))
            for choice in first:
                choice.append(99)
            self.assertEqual(first, [choice + [99] for choice in told])
            first.append([])
            self.assertEqual(choices(course), told)

    def test_one_rule_that_stands_at_several_places(self):
        # A rule may be one object; its leaves count at each place of their own.
        two = some(1, LEAF, LEAF)
        told = choices(course_of(every(two, two)))
        self.assertEqual(told, [[0, 2], [0, 3], [1, 2], [1, 3]])


if __name__ == "__main__":
    unittest.main()
