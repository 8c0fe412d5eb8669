"""[8], the leaves of a course; [2], what is handed in and what is given."""

import copy
import unittest

from court.courses import leaves_of

FROM = ("from", 3, ["maths", "art"], 2, 50, 4)
ANY = ("from", 1, [], 0, 0, 1)
OF = ("of", 2, ["logic", "algebra"], 60, 9)


def leaf(number):
    return ("from", number, ["maths"], number, 10 * number, 1)


def nested():
    inner = ("some", 1, [leaf(2), ("all", [leaf(3)]), leaf(4)])
    return ([("maths", 2)], ("all", [leaf(0), leaf(1), inner, leaf(5), ("some", 2, [leaf(6), leaf(7)])]))


class Leaves(unittest.TestCase):
    def test_a_course_that_is_one_leaf(self):
        for one in [FROM, ANY, OF]:
            with self.subTest(one=one):
                self.assertEqual(leaves_of(([], one)), [one])
                self.assertEqual(leaves_of(([("maths", 2), ("art", 9)], one)), [one])

    def test_a_group_of_one_rule(self):
        self.assertEqual(leaves_of(([], ("all", [OF]))), [OF])
        self.assertEqual(leaves_of(([], ("some", 1, [FROM]))), [FROM])

    def test_the_order_in_which_they_stand(self):
        self.assertEqual(leaves_of(([], ("all", [OF, FROM, ANY]))), [OF, FROM, ANY])
        self.assertEqual(leaves_of(([], ("some", 2, [ANY, OF, FROM]))), [ANY, OF, FROM])

    def test_groups_within_groups(self):
        self.assertEqual(leaves_of(nested()), [leaf(number) for number in range(8)])

    def test_the_same_leaf_twice_is_two_leaves(self):
        told = leaves_of(([], ("all", [FROM, FROM, ("all", [FROM])])))
        self.assertEqual(told, [FROM, FROM, FROM])
        told[0][2].append("bio")
        self.assertEqual(told[1:], [FROM, FROM])

    def test_six_groups_within_one_another(self):
        rule = FROM
        for many in range(6):
            rule = ("all", [leaf(many), rule]) if many % 2 == 0 else ("some", 1, [leaf(many), rule])
        self.assertEqual(leaves_of(([], rule)), [leaf(many) for many in range(5, -1, -1)] + [FROM])

    def test_sixteen_leaves_and_somewhat_more(self):
        for many in [16, 17, 40]:
            rules = [leaf(number) for number in range(many)]
            self.assertEqual(leaves_of(([], ("all", list(rules)))), rules)

    def test_somewhat_more_than_six_groups(self):
        rule = FROM
        for _ in range(20):
            rule = ("all", [rule])
        self.assertEqual(leaves_of(([], rule)), [FROM])


class Copies(unittest.TestCase):
    def test_a_list_of_tuples(self):
        for course in [nested(), ([], OF), ([], ANY)]:
            told = leaves_of(course)
            self.assertIs(type(told), list)
            for one in told:
                self.assertIs(type(one), tuple)
                self.assertIs(type(one[2]), list)

    def test_leaves_and_their_lists_are_new(self):
        for one in [FROM, ANY, OF]:
            told = leaves_of(([], one))[0]
            self.assertIsNot(told, one)
            self.assertIsNot(told[2], one[2])

    def test_what_was_told_is_the_askers_own(self):
        course = nested()
        told = leaves_of(course)
        for one in told:
            one[2].append("art")
        told.append(FROM)
        self.assertEqual(course, nested())
        self.assertEqual(leaves_of(course), [leaf(number) for number in range(8)])

    def test_what_is_done_to_the_course_later_changes_nothing_told(self):
        course = nested()
        told = leaves_of(course)
        course[1][1][0][2].append("art")
        course[1][1].pop()
        self.assertEqual(told, [leaf(number) for number in range(8)])

    def test_the_course_handed_in_stays(self):
        for course in [nested(), ([("art", 3)], OF)]:
            before = copy.deepcopy(course)
            first = leaves_of(course)
            self.assertEqual(course, before)
            self.assertEqual(leaves_of(course), first)


if __name__ == "__main__":
    unittest.main()
