"""[20], what a choice leaves wanting, and its marks; [21], the verdict; [22], one case and another; [2], [14]."""

import copy
import random
import unittest

import by_words
from by_words import GREATEST, any_leaf, every, field_leaf, name_leaf, some
from court.errors import CourtError, TooMany
from court.verdict import Verdict

VALUES = ["met", "choice", "pairs", "wanting", "marks", "leaf_prices", "work_prices", "papers"]

ALGEBRA = ("algebra", "maths", 2, 9)
LOGIC = ("logic", "maths", 1, 7)
POEM = ("poem", "art", 0, 5)
CHOIR = ("choir", "music", 3, 4)


def told_by(verdict):
    return {value: getattr(verdict, value) for value in VALUES}


class VerdictCase(unittest.TestCase):
    def check(self, course, works, **told):
        """All of [20], [21] and [2] that can be walked without trying, and the values told; gives the verdict."""
        handed_in = copy.deepcopy((course, works))
        verdict = Verdict(*handed_in)
        self.assertEqual(handed_in, (course, works))
        self.check_kinds(verdict)
        where = (course, works, told_by(verdict))
        self.assertEqual(verdict.met, verdict.wanting == 0, where)
        self.check_papers(verdict, course, works)
        self.check_dealing(verdict, course, works)
        self.check_prices(verdict, course, works)
        self.assertEqual(told_by(Verdict(*handed_in)), told_by(verdict))
        for value in told:
            self.assertEqual(getattr(verdict, value), told[value], (value, where))
        return verdict

    def check_kinds(self, verdict):
        kinds = [type(getattr(verdict, value)) for value in VALUES]
        self.assertEqual(kinds, [bool, list, list, int, int, list, list, list])
        for pair in verdict.pairs:
            self.assertEqual((type(pair), [type(part) for part in pair]), (tuple, [str, int]))
        for paper in verdict.papers:
            self.assertEqual((type(paper), [type(part) for part in paper]), (tuple, [int, list]))
        for price in verdict.leaf_prices + verdict.work_prices:
            self.assertIs(type(price), int)
            self.assertGreaterEqual(price, 0)

    def check_papers(self, verdict, course, works):
        choices = by_words.choices_of(course[1])
        self.assertEqual(len(verdict.papers), len(choices))
        for choice, (wanting, leaves) in zip(choices, verdict.papers):
            self.assertEqual(leaves, sorted(set(leaves)))
            self.assertLessEqual(set(leaves), set(choice))
            paper = [choice.index(leaf) for leaf in leaves]
            self.assertEqual(by_words.shown(paper, *by_words.ground_of(course, works, choice)), wanting)
        self.assertEqual(verdict.wanting, min(wanting for wanting, _ in verdict.papers))
        self.assertEqual(verdict.papers[choices.index(verdict.choice)][0], verdict.wanting)

    def check_dealing(self, verdict, course, works):
        leaves = by_words.leaves_of(course[1])
        marks = {work[0]: work[3] for work in works}
        self.assertTrue(by_words.is_named_dealing(verdict.pairs, course, works, verdict.choice))
        self.assertEqual(sum(leaves[leaf][1] for leaf in verdict.choice) - len(verdict.pairs), verdict.wanting)
        self.assertEqual(sum(marks[name] * leaves[leaf][-1] for name, leaf in verdict.pairs), verdict.marks)

    def check_prices(self, verdict, course, works):
        wants, oftens, masks = by_words.ground_of(course, works, verdict.choice)
        weights = by_words.weights_of(
            oftens, [work[3] for work in works], by_words.worths_of(course, verdict.choice)
        )
        names = [work[0] for work in works]
        self.assertEqual([len(verdict.leaf_prices), len(verdict.work_prices)], [len(wants), len(oftens)])
        self.assertEqual(
            by_words.priced(wants, oftens, masks, weights, verdict.leaf_prices, verdict.work_prices),
            sum(weights[names.index(name)][verdict.choice.index(leaf)] for name, leaf in verdict.pairs),
        )

    def check_by_trying(self, course, works):
        """Held against all choices and all dealings."""
        verdict = self.check(course, works)
        choices = by_words.choices_of(course[1])
        judged = [by_words.judged_by_trying(course, works, choice) for choice in choices]
        self.assertEqual([wanting for wanting, _ in verdict.papers], [wanting for wanting, _ in judged])
        # `min` tells the first of several.
        chosen = min(range(len(choices)), key=lambda place: (judged[place][0], -judged[place][1]))
        self.assertEqual(verdict.choice, choices[chosen], (course, works))
        self.assertEqual((verdict.wanting, verdict.marks), judged[chosen], (course, works))
        return verdict


class ByHand(VerdictCase):
    def test_one_leaf(self):
        course = ([], any_leaf(1))
        self.check(course, [], met=False, choice=[0], pairs=[], wanting=1, marks=0, papers=[(1, [0])])
        self.check(course, [ALGEBRA], met=True, choice=[0], pairs=[("algebra", 0)], wanting=0, marks=9)
        self.check(course, [LOGIC, ALGEBRA, POEM], met=True, pairs=[("algebra", 0)], wanting=0, marks=9)
        self.check(([], any_leaf(2, worth=3)), [LOGIC, ALGEBRA, POEM], pairs=[("algebra", 0), ("logic", 0)], marks=48)

    def test_nothing_wanted(self):
        self.check(([], any_leaf(0)), [], met=True, choice=[0], pairs=[], wanting=0, marks=0)
        self.check(([], any_leaf(0)), [ALGEBRA], met=True, choice=[0], pairs=[], wanting=0, marks=0)

    def test_no_works(self):
        course = ([], every(any_leaf(2), some(1, any_leaf(1), any_leaf(0))))
        verdict = self.check(course, [], met=False, choice=[0, 2], pairs=[], wanting=2, marks=0, work_prices=[])
        self.assertEqual(verdict.papers[0], (3, [0, 1]))
        self.assertEqual(verdict.papers[1][0], 2)

    def test_works_that_fit_nothing(self):
        course = ([], every(field_leaf(2, "law"), name_leaf(1, "zoo"), any_leaf(1, level=9), any_leaf(1, mark=10)))
        papers = [(5, [0, 1, 2, 3])]
        self.check(course, [ALGEBRA, LOGIC, POEM], met=False, pairs=[], wanting=5, marks=0, papers=papers)

    def test_all(self):
        course = ([], every(field_leaf(1, "maths"), field_leaf(1, "art"), any_leaf(1, level=2)))
        pairs = [("algebra", 2), ("logic", 0), ("poem", 1)]
        self.check(course, [ALGEBRA, LOGIC, POEM], met=True, choice=[0, 1, 2], pairs=pairs, wanting=0, marks=21)
        # The two that fit "maths" are needed there and at the level.
        self.check(course, [ALGEBRA, POEM], met=False, choice=[0, 1, 2], wanting=1, marks=14, papers=[(1, [0, 2])])

    def test_a_work_that_fits_several_leaves_is_where_its_mark_is_worth_most(self):
        course = ([], every(any_leaf(1, worth=2), field_leaf(1, "maths", worth=5)))
        pairs = [("algebra", 1), ("logic", 0)]
        self.check(course, [ALGEBRA, LOGIC], pairs=pairs, marks=9 * 5 + 7 * 2)
        # As many pairs as can be come first, though the mark is worth less there.
        self.check(course, [ALGEBRA, POEM], pairs=[("algebra", 1), ("poem", 0)], marks=9 * 5 + 5 * 2)
        course = ([], every(any_leaf(1, worth=5), field_leaf(1, "maths", worth=2)))
        self.check(course, [ALGEBRA, POEM], pairs=[("algebra", 1), ("poem", 0)], marks=9 * 2 + 5 * 5)

    def test_oftens(self):
        course = ([("maths", 2)], every(field_leaf(1, "maths"), any_leaf(2)))
        self.check(course, [ALGEBRA], met=False, pairs=[("algebra", 0), ("algebra", 1)], wanting=1, marks=18)
        pairs = [("algebra", 0), ("algebra", 1), ("logic", 1)]
        self.check(course, [POEM, LOGIC, ALGEBRA], met=True, pairs=pairs, wanting=0, marks=25)
        # Another field's often is 1.
        self.check(([("art", 9)], course[1]), [ALGEBRA], wanting=2, marks=9)
        # One leaf has a work once, however great its often.
        self.check(([("maths", 9)], any_leaf(3)), [ALGEBRA], pairs=[("algebra", 0)], wanting=2, marks=9)

    def test_some_takes_what_leaves_least_wanting(self):
        course = ([], some(1, field_leaf(3, "maths"), field_leaf(2, "art"), field_leaf(2, "music")))
        self.check(course, [ALGEBRA, LOGIC], choice=[0], wanting=1, marks=16, papers=[(1, [0]), (2, [1]), (2, [2])])
        self.check(course, [CHOIR], choice=[2], pairs=[("choir", 2)], wanting=1, marks=4)
        self.check(course, [POEM], choice=[1], pairs=[("poem", 1)], wanting=1, marks=5)

    def test_less_wanting_goes_before_greater_marks(self):
        course = ([], some(1, field_leaf(2, "maths", worth=9), field_leaf(1, "art")))
        self.check(course, [ALGEBRA, POEM], met=True, choice=[1], pairs=[("poem", 1)], marks=5)
        self.check(([], some(1, *course[1][2][::-1])), [ALGEBRA, POEM], met=True, choice=[0], marks=5)

    def test_of_several_the_greatest_marks(self):
        course = ([], some(1, field_leaf(1, "art"), field_leaf(1, "maths"), field_leaf(1, "music")))
        self.check(course, [POEM, LOGIC, CHOIR], choice=[1], pairs=[("logic", 1)], marks=7)
        course = ([], some(1, field_leaf(1, "art", worth=2), field_leaf(1, "maths"), field_leaf(1, "music")))
        self.check(course, [POEM, LOGIC, CHOIR], choice=[0], pairs=[("poem", 0)], marks=10)
        # Greatest among those that leave as much wanting.
        course = ([], some(1, field_leaf(2, "art"), field_leaf(2, "maths"), field_leaf(2, "music")))
        self.check(course, [POEM, LOGIC, CHOIR], choice=[1], wanting=1, marks=7)

    def test_of_several_of_these_the_first(self):
        course = ([], some(1, any_leaf(1), any_leaf(1), any_leaf(1)))
        self.check(course, [POEM], choice=[0], pairs=[("poem", 0)])
        self.check(course, [], choice=[0], wanting=1)
        course = ([], some(2, field_leaf(1, "law"), any_leaf(1), any_leaf(1), any_leaf(1)))
        self.check(course, [POEM, CHOIR], choice=[1, 2], marks=9)

    def test_groups_within_groups(self):
        course = (
            [],
            every(any_leaf(1), some(1, every(name_leaf(1, "poem"), any_leaf(1, level=3)), field_leaf(1, "maths"))),
        )
        pairs = [("algebra", 0), ("choir", 2), ("poem", 1)]
        self.check(course, [ALGEBRA, POEM, CHOIR], choice=[0, 1, 2], pairs=pairs, marks=18)
        self.check(course, [ALGEBRA, POEM], choice=[0, 3], pairs=[("algebra", 3), ("poem", 0)], marks=14)
        # Both ways leave one wanting, but only one of them counts both works.
        self.check(course, [POEM, CHOIR], choice=[0, 1, 2], wanting=1, marks=9)
        self.check(course, [CHOIR], choice=[0, 3], pairs=[("choir", 0)], wanting=1, marks=4)

    def test_leaf_numbers_are_those_of_the_whole_course(self):
        course = ([], some(1, every(*[name_leaf(1, "zoo")] * 5), some(2, name_leaf(3, "zoo"), any_leaf(1), any_leaf(1))))
        verdict = self.check(course, [POEM, LOGIC], met=True, choice=[6, 7], marks=12)
        self.assertEqual([leaf for _, leaf in sorted(verdict.pairs, key=lambda pair: pair[1])], [6, 7])
        self.assertEqual(verdict.papers, [(5, [0, 1, 2, 3, 4]), (3, [5]), (3, [5]), (0, [])])

    def test_pairs_are_sorted_by_name(self):
        works = [("zoo", "art", 0, 1), ("ab", "art", 0, 1), ("b", "art", 0, 1), ("a", "art", 0, 1)]
        pairs = [("a", 0), ("a", 1), ("ab", 0), ("ab", 1), ("b", 0), ("b", 1), ("zoo", 0), ("zoo", 1)]
        self.check(([("art", 2)], every(any_leaf(9), any_leaf(9))), works, pairs=pairs, wanting=10, marks=8)

    def test_sixty_figures(self):
        works = [("a", "art", GREATEST, GREATEST), ("b", "art", GREATEST - 1, GREATEST - 1)]
        course = ([("art", 9)], every(any_leaf(1, level=GREATEST, worth=9), any_leaf(2, mark=GREATEST - 1, worth=8)))
        self.check(course, works, met=True, marks=9 * GREATEST + 8 * (2 * GREATEST - 1))


class ByTrying(VerdictCase):
    def test_courses_of_one_leaf(self):
        draw = random.Random(1)
        for _ in range(60):
            course = ([], by_words.drawn_leaf(draw, 3, 5))
            self.check_by_trying(course, by_words.drawn_works(draw, draw.sample(by_words.NAMES, draw.randint(0, 5))))

    def test_drawn_ones(self):
        draw = random.Random(2)
        for number in range(250):
            course = by_words.drawn_course(draw, depth=1 + number % 3, room=5)
            self.check_by_trying(course, by_words.drawn_works(draw, draw.sample(by_words.NAMES, draw.randint(0, 5))))

    def test_drawn_ones_with_marks_of_sixty_figures(self):
        draw = random.Random(3)
        for number in range(60):
            course = by_words.drawn_course(draw, depth=1 + number % 3, room=5, most_mark=GREATEST)
            names = draw.sample(by_words.NAMES, draw.randint(1, 5))
            self.check_by_trying(course, by_words.drawn_works(draw, names, most_mark=GREATEST))

    def test_drawn_ones_with_many_choices_alike(self):
        # Few fields and marks, so that many choices are as good as another.
        draw = random.Random(4)
        for _ in range(80):
            rules = [field_leaf(draw.randint(0, 2), draw.choice(["art", "law"])) for _ in range(4)]
            course = ([("art", draw.randint(1, 2))], some(draw.randint(1, 3), *rules))
            names = draw.sample(by_words.NAMES, draw.randint(0, 5))
            self.check_by_trying(course, by_words.drawn_works(draw, names, most_mark=1, fields=["art", "law"]))


class Bounds(VerdictCase):
    # Five groups of two have 32 choices.
    TWOS = [some(1, any_leaf(1), field_leaf(1, "maths", worth=2))] * 5

    def test_32_choices_are_judged(self):
        course = ([], every(*self.TWOS))
        verdict = self.check(course, [ALGEBRA, POEM, LOGIC])
        self.assertEqual(len(verdict.papers), 32)
        self.check(([], every(*self.TWOS, *[any_leaf(60)] * 6)), [ALGEBRA, POEM, LOGIC])

    def test_33_are_refused(self):
        threes = some(1, *[any_leaf(1)] * 3)
        elevens = some(1, *[any_leaf(1)] * 11)
        for rule in [every(threes, elevens), every(elevens, threes), some(8, *[any_leaf(1)] * 16)]:
            for works in [[], [ALGEBRA]]:
                with self.assertRaises(TooMany) as caught:
                    Verdict(([], rule), works)
                self.assertEqual(caught.exception.most, 32)
                self.assertIsInstance(caught.exception, CourtError)

    def test_the_greatest(self):
        draw = random.Random(5)
        names = by_words.many_names(80)
        leaves = [any_leaf(60, mark=draw.choice([0, 0, GREATEST // 2]), worth=draw.randint(1, 9)) for _ in range(16)]
        rule = every(some(3, *leaves[:4]), some(3, *leaves[4:8]), some(1, *leaves[8:10]), *leaves[10:])
        works = by_words.drawn_works(draw, names, most_mark=GREATEST)
        self.check(([(field, 9) for field in by_words.FIELDS], rule), works)
        self.check(([], rule), works)

    def test_somewhat_beyond_the_bounds_nothing_is_refused(self):
        names = by_words.many_names(90)
        works = [(name, "art", 10**61, 10**61) for name in names]
        self.check(([("art", 10)], every(*[any_leaf(61, worth=10)] * 18)), works, wanting=61 * 18 - 900)


class OneAndAnother(VerdictCase):
    def cases(self):
        draw = random.Random(6)
        for number in range(120):
            course = by_words.drawn_course(draw, depth=1 + number % 3, room=6, most_want=3)
            names = draw.sample(by_words.NAMES, draw.randint(1, 7))
            yield draw, course, by_words.drawn_works(draw, names)

    def check_no_worse(self, course, works, more, often):
        before, after = Verdict(course, works), self.check(course, more)
        for (one, _), (other, _) in zip(before.papers, after.papers):
            self.assertLessEqual(other, one)
            self.assertLessEqual(one - other, often)
        if before.wanting == after.wanting:
            self.assertGreaterEqual(after.marks, before.marks)

    def test_one_work_more(self):
        for draw, course, works in self.cases():
            fresh = [name for name in by_words.NAMES if name not in [work[0] for work in works]]
            work = by_words.drawn_works(draw, [draw.choice(fresh)])[0]
            place = draw.randint(0, len(works))
            more = works[:place] + [work] + works[place:]
            self.check_no_worse(course, works, more, by_words.often_of(course, work))

    def test_a_greater_mark(self):
        for draw, course, works in self.cases():
            more = list(works)
            place = draw.randrange(len(works))
            name, field, level, mark = works[place]
            more[place] = (name, field, level, mark + draw.choice([1, 3, 10**20]))
            self.check_no_worse(course, works, more, by_words.often_of(course, works[place]))

    def test_a_greater_level(self):
        for draw, course, works in self.cases():
            more = list(works)
            place = draw.randrange(len(works))
            name, field, level, mark = works[place]
            more[place] = (name, field, level + draw.choice([1, 2, 10**20]), mark)
            self.check_no_worse(course, works, more, by_words.often_of(course, works[place]))

    def test_the_works_turned_about(self):
        for draw, course, works in self.cases():
            before = Verdict(course, works)
            other = list(works)
            draw.shuffle(other)
            for turned in [works[::-1], other]:
                after = self.check(course, turned, wanting=before.wanting, marks=before.marks, choice=before.choice)
                self.assertEqual([paper[0] for paper in after.papers], [paper[0] for paper in before.papers])


class HandedInAndGiven(unittest.TestCase):
    def setUp(self):
        leaves = [field_leaf(2, "maths", "art"), name_leaf(1, "poem", "zoo"), any_leaf(3)]
        self.course = ([("maths", 2)], every(leaves[0], some(1, leaves[1], leaves[2])))
        self.works = [ALGEBRA, POEM]
        self.verdict = Verdict(self.course, self.works)
        self.kept = copy.deepcopy(told_by(self.verdict))

    def test_what_is_done_later_to_what_was_handed_in_changes_nothing(self):
        course = self.course
        course[1][1][0][2].clear()
        course[1][1][1][2].clear()
        course[1][1].clear()
        course[0].clear()
        self.works.clear()
        self.assertEqual(told_by(self.verdict), self.kept)

    def test_each_list_told_is_one_of_its_own(self):
        handed_in = copy.deepcopy((self.course, self.works))
        for value in VALUES:
            verdict = Verdict(self.course, self.works)
            told = getattr(verdict, value)
            if type(told) is list:
                told.append(9)
                told.reverse()
            if value == "papers":
                for paper in told[1:]:
                    paper[1].append(9)
            for other in VALUES:
                if other != value:
                    self.assertEqual(getattr(verdict, other), self.kept[other], (value, other))
            self.assertEqual(told_by(self.verdict), self.kept)
            self.assertEqual(told_by(Verdict(self.course, self.works)), self.kept)
            self.assertEqual((self.course, self.works), handed_in)


if __name__ == "__main__":
    unittest.main()
