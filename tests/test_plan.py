"""[23], what cannot be planned; [24], the plan; [3] of the plan, [2], [14]."""

import copy
import itertools
import random
import unittest

import by_words
from by_words import GREATEST, any_leaf, every, field_leaf, name_leaf, some
from court.errors import CourtError, NoPlan, TooMany
from court.plan import Plan
from court.verdict import Verdict

VALUES = ["choice", "wanting", "names", "pairs", "papers"]

ALGEBRA = ("algebra", "maths", 2, 9)
LOGIC = ("logic", "maths", 1, 7)
POEM = ("poem", "art", 0, 5)
CHOIR = ("choir", "music", 3, 4)
COURT = ("court", "law", 1, 1)


def told_by(plan):
    return {value: getattr(plan, value) for value in VALUES}


def least_wanting(course, works, choice):
    return by_words.judged_by_trying(course, works, choice)[0]


def fewest_by_trying(course, works, catalogue, choice):
    """The least that can be wanting, and how many works of the catalogue are needed, by trying all its parts."""
    reached = least_wanting(course, works + catalogue, choice)
    for many in range(len(catalogue) + 1):
        for part in itertools.combinations(catalogue, many):
            if least_wanting(course, works + list(part), choice) == reached:
                return (reached, many)


class PlanCase(unittest.TestCase):
    def check(self, course, works, catalogue, **told):
        """All of [24] and [2] that can be walked without trying, and the values told; gives the plan."""
        handed_in = copy.deepcopy((course, works, catalogue))
        plan = Plan(*handed_in)
        self.assertEqual(handed_in, (course, works, catalogue))
        self.check_kinds(plan)
        self.check_papers(plan, course, works, catalogue)
        self.check_names_and_pairs(plan, course, works, catalogue)
        self.assertEqual(told_by(Plan(*handed_in)), told_by(plan))
        for value in told:
            self.assertEqual(getattr(plan, value), told[value], (value, course, works, catalogue, told_by(plan)))
        return plan

    def check_kinds(self, plan):
        self.assertEqual([type(getattr(plan, value)) for value in VALUES], [list, int, list, list, tuple])
        for pair in plan.pairs:
            self.assertEqual((type(pair), [type(part) for part in pair]), (tuple, [str, int]))
        self.assertEqual([type(paper) for paper in plan.papers], [tuple, tuple])
        for paper in plan.papers:
            self.assertEqual([type(part) for part in paper], [int, list])

    def check_papers(self, plan, course, works, catalogue):
        self.assertIn(plan.choice, by_words.choices_of(course[1]))
        for (wanting, leaves), known in zip(plan.papers, [works, works + catalogue]):
            self.assertEqual(leaves, sorted(set(leaves)))
            self.assertLessEqual(set(leaves), set(plan.choice))
            paper = [plan.choice.index(leaf) for leaf in leaves]
            self.assertEqual(by_words.shown(paper, *by_words.ground_of(course, known, plan.choice)), wanting)
        self.assertEqual(plan.wanting, plan.papers[1][0])

    def check_names_and_pairs(self, plan, course, works, catalogue):
        self.assertEqual(plan.names, sorted(set(plan.names)))
        named = [work for work in catalogue if work[0] in plan.names]
        self.assertEqual(len(named), len(plan.names))
        self.assertEqual(len(plan.names), plan.papers[0][0] - plan.papers[1][0])
        self.assertTrue(by_words.is_named_dealing(plan.pairs, course, works + named, plan.choice), plan.pairs)
        leaves = by_words.leaves_of(course[1])
        self.assertEqual(sum(leaves[leaf][1] for leaf in plan.choice) - len(plan.pairs), plan.wanting)
        # With these works the court tells just that, and with all of the catalogue no less.
        self.assertEqual(Verdict(course, works + named).wanting, plan.wanting)
        self.assertEqual(Verdict(course, works + catalogue).wanting, plan.wanting)

    def check_by_trying(self, course, works, catalogue):
        plan = self.check(course, works, catalogue)
        choices = by_words.choices_of(course[1])
        found = [fewest_by_trying(course, works, catalogue, choice) for choice in choices]
        chosen = min(range(len(choices)), key=lambda place: found[place])
        self.assertEqual(plan.choice, choices[chosen], (course, works, catalogue))
        self.assertEqual((plan.wanting, len(plan.names)), found[chosen], (course, works, catalogue))


class Refused(unittest.TestCase):
    COURSE = ([("maths", 2), ("art", 1)], any_leaf(3))
    MANY = ([("maths", 2), ("art", 1)], some(1, *[any_leaf(1)] * 33))

    def check(self, works, catalogue, name):
        # A course of too many choices is refused after this alone.
        for course in [self.COURSE, self.MANY]:
            handed_in = copy.deepcopy((course, works, catalogue))
            with self.assertRaises(NoPlan) as caught:
                Plan(*handed_in)
            self.assertEqual(caught.exception.name, name)
            self.assertIsInstance(caught.exception, CourtError)
            self.assertEqual(handed_in, (course, works, catalogue))

    def test_a_name_of_the_learners(self):
        self.check([POEM], [POEM], "poem")
        self.check([ALGEBRA, POEM], [CHOIR, ("poem", "law", 9, 9)], "poem")
        self.check([ALGEBRA, POEM], [CHOIR, ("algebra", "law", 9, 9)], "algebra")

    def test_a_name_ahead_in_the_catalogue(self):
        self.check([], [POEM, POEM], "poem")
        self.check([ALGEBRA], [POEM, CHOIR, ("poem", "law", 0, 0)], "poem")

    def test_an_often_above_1(self):
        self.check([], [ALGEBRA], "algebra")
        self.check([ALGEBRA], [POEM, LOGIC], "logic")

    def test_an_often_of_1_is_not_refused(self):
        self.assertEqual(Plan(self.COURSE, [], [POEM]).names, ["poem"])
        # The learner's own works may count more often.
        self.assertEqual(Plan(self.COURSE, [ALGEBRA], [POEM]).names, ["poem"])

    def test_the_first_such(self):
        zoo = ("zoo", "maths", 0, 0)
        self.check([POEM], [CHOIR, zoo, POEM, CHOIR], "zoo")
        self.check([POEM], [CHOIR, POEM, zoo, CHOIR], "poem")
        self.check([POEM], [CHOIR, CHOIR, POEM, zoo], "choir")
        self.check([zoo, POEM], [CHOIR, POEM, zoo], "poem")
        # It stands twice; the second is the first that is refused.
        self.check([], [COURT, COURT, COURT, zoo], "court")

    def test_too_many_choices(self):
        for works, catalogue in [([], []), ([POEM], [CHOIR]), ([ALGEBRA], [])]:
            with self.assertRaises(TooMany) as caught:
                Plan(self.MANY, works, catalogue)
            self.assertEqual(caught.exception.most, 32)

    def test_32_choices_are_planned(self):
        plan = Plan(([], some(1, *[any_leaf(2)] * 31, any_leaf(1))), [], [POEM])
        self.assertEqual((plan.choice, plan.wanting, plan.names), ([31], 0, ["poem"]))


class ByHand(PlanCase):
    def test_no_catalogue(self):
        papers = ((1, [0]), (1, [0]))
        self.check(([], any_leaf(1)), [], [], choice=[0], wanting=1, names=[], pairs=[], papers=papers)
        self.check(([], any_leaf(1)), [POEM], [], choice=[0], wanting=0, names=[], pairs=[("poem", 0)])

    def test_one_that_does_not_help(self):
        course = ([], field_leaf(2, "art"))
        papers = ((1, [0]), (1, [0]))
        self.check(course, [POEM], [CHOIR, COURT], wanting=1, names=[], pairs=[("poem", 0)], papers=papers)
        # Nothing is wanting, so nothing is needed.
        self.check(([], field_leaf(1, "art")), [POEM], [("ink", "art", 9, 9)], wanting=0, names=[])
        self.check(([], any_leaf(0)), [], [CHOIR, COURT], wanting=0, names=[], pairs=[])

    def test_only_some_are_needed(self):
        course = ([], every(field_leaf(1, "art"), field_leaf(1, "law"), any_leaf(1)))
        plan = self.check(course, [POEM, CHOIR], [("ink", "art", 9, 9), ("oak", "music", 9, 9), COURT])
        self.assertEqual((plan.wanting, plan.names), (0, ["court"]))
        self.assertEqual(plan.papers[0], (1, [1]))
        self.assertEqual(plan.pairs, [("choir", 2), ("court", 1), ("poem", 0)])

    def test_names_are_sorted(self):
        catalogue = [("zoo", "art", 0, 0), ("ink", "law", 0, 0), ("ab", "art", 0, 0), ("a", "art", 0, 0)]
        pairs = [("a", 0), ("ab", 0), ("ink", 0), ("zoo", 0)]
        self.check(([], any_leaf(4)), [], catalogue, names=["a", "ab", "ink", "zoo"], pairs=pairs, wanting=0)

    def test_a_learners_work_moves_on_for_one_of_the_catalogue(self):
        # The catalogue's work fits leaf 0 alone, where the learner's may be dealt at first.
        for course in [
            ([], every(any_leaf(1), any_leaf(1, level=2))),
            ([], every(any_leaf(1, level=2), any_leaf(1))),
        ]:
            easy = [number for number, leaf in enumerate(course[1][1]) if leaf[3] == 0][0]
            pairs = sorted([("algebra", 1 - easy), ("court", easy)])
            self.check(course, [ALGEBRA], [COURT], names=["court"], wanting=0, pairs=pairs)

    def test_one_that_helps_one_choice_more(self):
        course = ([], some(1, field_leaf(3, "art"), field_leaf(4, "law")))
        laws = [(name, "law", 0, 0) for name in ["a", "b", "c", "d"]]
        # The second has more wanting at first, and nothing in the end.
        plan = self.check(course, [POEM], laws, choice=[1], wanting=0, names=["a", "b", "c", "d"])
        self.assertEqual(plan.papers[0], (4, [1]))
        plan = self.check(course, [POEM], laws[:1], choice=[0], wanting=2, names=[], pairs=[("poem", 0)])
        self.assertEqual(plan.papers, ((2, [0]), (2, [0])))

    def test_of_several_the_fewest_works(self):
        course = ([], some(1, field_leaf(3, "art"), field_leaf(2, "law"), field_leaf(2, "music")))
        catalogue = [(name, field, 0, 0) for field in ["art", "law", "music"] for name in [field + "a", field + "b"]]
        catalogue.append(("zoo", "art", 0, 0))
        self.check(course, [], catalogue, choice=[1], wanting=0, names=["lawa", "lawb"])
        self.check(course, [CHOIR], catalogue[:-2], choice=[2], wanting=0, names=["musica"])
        self.check(course, [POEM, ("ink", "art", 0, 0)], catalogue[:-2], choice=[0], wanting=0)

    def test_of_several_of_these_the_first(self):
        course = ([], some(1, field_leaf(1, "art"), any_leaf(1), any_leaf(1)))
        self.check(course, [], [COURT], choice=[1], wanting=0, names=["court"], pairs=[("court", 1)])
        self.check(course, [], [], choice=[0], wanting=1, names=[])
        # Greater marks do not decide here.
        course = ([], some(1, field_leaf(1, "law"), field_leaf(1, "art", worth=9)))
        self.check(course, [COURT, POEM], [], choice=[0], pairs=[("court", 0)])

    def test_oftens_of_the_learners_works(self):
        course = ([("maths", 2)], every(any_leaf(2), any_leaf(2)))
        plan = self.check(course, [ALGEBRA], [COURT, POEM, CHOIR], wanting=0)
        self.assertEqual(len(plan.names), 2)
        self.assertEqual([name for name, _ in plan.pairs].count("algebra"), 2)

    def test_leaf_numbers_are_those_of_the_whole_course(self):
        course = ([], some(1, every(*[name_leaf(1, "zoo")] * 3), every(any_leaf(1), field_leaf(2, "law"))))
        plan = self.check(course, [POEM], [COURT], choice=[3, 4], wanting=1, names=["court"])
        self.assertEqual(plan.pairs, [("court", 4), ("poem", 3)])
        self.assertEqual(plan.papers, ((2, [4]), (1, [4])))


class ByTrying(PlanCase):
    def cases(self, seed, many, most_mark=5):
        draw = random.Random(seed)
        for number in range(many):
            course = by_words.drawn_course(draw, depth=1 + number % 3, room=5, most_want=3, most_mark=most_mark)
            names = draw.sample(by_words.NAMES, draw.randint(0, 8))
            place = draw.randint(0, min(4, len(names)))
            once = [field for field in by_words.FIELDS if dict(course[0]).get(field, 1) == 1]
            works = by_words.drawn_works(draw, names[:place], most_mark)
            yield draw, course, works, by_words.drawn_works(draw, names[place:], most_mark, once)[:5]

    def test_drawn_ones(self):
        for _, course, works, catalogue in self.cases(1, 150):
            self.check_by_trying(course, works, catalogue)

    def test_drawn_ones_of_sixty_figures(self):
        for _, course, works, catalogue in self.cases(2, 20, GREATEST):
            self.check_by_trying(course, works, catalogue)

    def test_a_longer_catalogue_leaves_no_more_wanting(self):
        for _, course, works, catalogue in self.cases(3, 80):
            wanting = [Plan(course, works, catalogue[:many]).wanting for many in range(len(catalogue) + 1)]
            self.assertEqual(wanting, sorted(wanting, reverse=True), (course, works, catalogue))
            self.assertEqual(wanting[0], Verdict(course, works).wanting)

    def test_the_catalogue_turned_about(self):
        for draw, course, works, catalogue in self.cases(4, 80):
            before = Plan(course, works, catalogue)
            other = list(catalogue)
            draw.shuffle(other)
            for turned in [catalogue[::-1], other]:
                after = self.check(course, works, turned, wanting=before.wanting, choice=before.choice)
                self.assertEqual(len(after.names), len(before.names))


class Greatest(PlanCase):
    def test_the_greatest(self):
        draw = random.Random(5)
        names = by_words.many_names(120)
        leaves = [by_words.drawn_leaf(draw, 12, 5) for _ in range(16)]
        rule = every(some(3, *leaves[:4]), some(3, *leaves[4:8]), some(1, *leaves[8:10]), *leaves[10:])
        works = by_words.drawn_works(draw, names[:80])
        catalogue = by_words.drawn_works(draw, names[80:], fields=["law", "music"])
        plan = self.check(([("maths", 2), ("art", 9)], rule), works[:20], catalogue)
        self.assertGreater(len(plan.names), 0)
        self.check(([("maths", 2), ("art", 9)], rule), works, catalogue)


class HandedInAndGiven(unittest.TestCase):
    def setUp(self):
        leaves = [field_leaf(2, "maths", "art"), name_leaf(1, "poem", "zoo"), any_leaf(3)]
        self.course = ([("maths", 2)], every(leaves[0], some(1, leaves[1], leaves[2])))
        self.works = [ALGEBRA]
        self.catalogue = [POEM, CHOIR]
        self.plan = Plan(self.course, self.works, self.catalogue)
        self.kept = copy.deepcopy(told_by(self.plan))

    def test_what_is_done_later_to_what_was_handed_in_changes_nothing(self):
        course = self.course
        course[1][1][0][2].clear()
        course[1][1].clear()
        course[0].clear()
        self.works.clear()
        self.catalogue.clear()
        self.assertEqual(told_by(self.plan), self.kept)

    def test_each_list_told_is_one_of_its_own(self):
        handed_in = copy.deepcopy((self.course, self.works, self.catalogue))
        for value in VALUES:
            plan = Plan(self.course, self.works, self.catalogue)
            told = getattr(plan, value)
            for part in [told] if type(told) is list else [told[0][1]] if type(told) is tuple else []:
                part.append(9)
            if value == "papers":
                self.assertEqual(plan.papers[1], self.kept["papers"][1])
                plan.papers[1][1].append(9)
            for other in VALUES:
                if other != value:
                    self.assertEqual(getattr(plan, other), self.kept[other], (value, other))
            self.assertEqual(told_by(self.plan), self.kept)
            self.assertEqual(told_by(Plan(self.course, self.works, self.catalogue)), self.kept)
            self.assertEqual((self.course, self.works, self.catalogue), handed_in)


if __name__ == "__main__":
    unittest.main()
