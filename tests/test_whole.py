"""[1], [3]: from the texts of a course and of works to the desk's answers, read back and walked by the sums."""

import random
import unittest

import by_words
from by_words import GREATEST
from court.desk import Desk


def numbers_of(text):
    return [int(part) for part in text.split(" ") if part != ""]


def read_ask(answer):
    """What is wanting, and the marks."""
    words = answer.split(" ")
    if words[0] == "met" and len(words) == 2:
        return (0, int(words[1]))
    head, wanting, marks = words
    if head != "wanting" or wanting == "0":
        raise ValueError(answer)
    return (int(wanting), int(marks))


def read_deal(answer):
    """The choice, and the pairs."""
    leaves, pairs = answer.split(": ")
    found = [pair.split(" ") for pair in pairs.split(", ") if pair != ""]
    return (numbers_of(leaves), [(name, int(leaf)) for name, leaf in found])


def read_why(answer):
    """For each choice what is wanting, and the leaves of its paper."""
    papers = [numbers_of(paper) for paper in answer.split("; ")]
    return [(paper[0], paper[1:]) for paper in papers]


def read_plan(answer):
    """What is wanting, and the names."""
    wanting, *names = answer.split(" ")
    return (int(wanting), names)


class Walk(unittest.TestCase):
    def setUp(self):
        self.desk = Desk()

    def keep(self, course, works, catalogue):
        texts = [by_words.text_of_course(course), by_words.text_of_works(works), by_words.text_of_works(catalogue)]
        for row, text in zip(["course base", "works ann", "works more"], texts):
            self.assertEqual(self.desk.say(row + " " + text), "ok")
            self.assertEqual(self.desk.say("show " + row), text)

    def walk_verdict(self, course, works):
        leaves = by_words.leaves_of(course[1])
        choices = by_words.choices_of(course[1])
        self.assertEqual(self.desk.say("choices base"), str(len(choices)))
        wanting, marks = read_ask(self.desk.say("ask base ann"))
        choice, pairs = read_deal(self.desk.say("deal base ann"))
        papers = read_why(self.desk.say("why base ann"))
        # Each paper shows just its number, so no dealing of any choice leaves less wanting.
        self.assertEqual(len(papers), len(choices))
        for other, (number, paper) in zip(choices, papers):
            self.assertEqual(paper, sorted(set(paper)))
            places = [other.index(leaf) for leaf in paper]
            self.assertEqual(by_words.shown(places, *by_words.ground_of(course, works, other)), number)
        self.assertEqual(wanting, min(number for number, _ in papers))
        # The dealing is one, leaves just that wanting and has just those marks.
        self.assertIn(choice, choices)
        self.assertTrue(by_words.is_named_dealing(pairs, course, works, choice))
        self.assertEqual(sum(leaves[leaf][1] for leaf in choice) - len(pairs), wanting)
        found = {work[0]: work[3] for work in works}
        self.assertEqual(sum(found[name] * leaves[leaf][-1] for name, leaf in pairs), marks)
        return (wanting, marks, choice)

    def walk_plan(self, course, works, catalogue):
        wanting, names = read_plan(self.desk.say("plan base ann more"))
        self.assertEqual(names, sorted(set(names)))
        named = [work for work in catalogue if work[0] in names]
        self.assertEqual(len(named), len(names))
        # With these works the court tells just that, and with all of the catalogue; without any one of them more.
        self.assertEqual(self.wanting_with(works + named), wanting)
        self.assertEqual(self.wanting_with(works + catalogue), wanting)
        for name in names:
            fewer = [work for work in named if work[0] != name]
            self.assertGreater(self.wanting_with(works + fewer), wanting)
        return (wanting, names)

    def wanting_with(self, works):
        self.desk.say("works trial " + by_words.text_of_works(works))
        return read_ask(self.desk.say("ask base trial"))[0]

    def check_by_trying(self, course, works, catalogue):
        wanting, marks, choice = self.walk_verdict(course, works)
        judged = [by_words.judged_by_trying(course, works, other) for other in by_words.choices_of(course[1])]
        least = min(judged, key=lambda one: (one[0], -one[1]))
        self.assertEqual((wanting, marks), least)
        self.assertEqual(choice, by_words.choices_of(course[1])[judged.index(least)])
        wanting, names = self.walk_plan(course, works, catalogue)
        reached = []
        for other in by_words.choices_of(course[1]):
            before = by_words.judged_by_trying(course, works, other)[0]
            after = by_words.judged_by_trying(course, works + catalogue, other)[0]
            reached.append((after, before - after))
        self.assertEqual((wanting, len(names)), min(reached))


class Drawn(Walk):
    def drawn(self, draw, room, most_works, most_want, most_mark):
        course = by_words.drawn_course(draw, depth=3, room=room, most_want=most_want, most_mark=most_mark)
        once = [field for field in by_words.FIELDS if dict(course[0]).get(field, 1) == 1]
        names = by_words.NAMES if most_works < 6 else [name + "x" for name in by_words.many_names(30)] + by_words.NAMES
        names = draw.sample(names, draw.randint(0, 2 * most_works))
        place = draw.randint(0, len(names)) // 2
        works = by_words.drawn_works(draw, names[:place], most_mark)
        return course, works, by_words.drawn_works(draw, names[place:], most_mark, once)

    def test_small_ones_held_against_trying(self):
        draw = random.Random(1)
        for number in range(150):
            most_mark = [1, 5, GREATEST][number % 3]
            course, works, catalogue = self.drawn(draw, 5, 4, 2, most_mark)
            self.keep(course, works, catalogue)
            self.check_by_trying(course, works, catalogue)

    def test_greater_ones_walked(self):
        draw = random.Random(2)
        for _ in range(25):
            course, works, catalogue = self.drawn(draw, 16, 20, 6, GREATEST)
            self.keep(course, works, catalogue)
            self.walk_verdict(course, works)
            self.walk_plan(course, works, catalogue)


class Greatest(Walk):
    def test_forty_works_at_sixteen_leaves(self):
        draw = random.Random(3)
        leaves = [by_words.drawn_leaf(draw, 60, 9) for _ in range(16)]
        rule = ("all", [("some", 3, leaves[:4]), ("some", 3, leaves[4:8]), ("some", 1, leaves[8:10]), *leaves[10:]])
        course = ([("maths", 9), ("art", 5)], rule)
        works = by_words.drawn_works(draw, by_words.many_names(30) + by_words.NAMES, GREATEST)
        self.keep(course, works, [])
        self.walk_verdict(course, works)


class Told(Walk):
    def test_one_told_by_hand(self):
        # The work of maths may count twice, but once alone at each leaf.
        text = "often 2 maths\nall\n2 from maths\nsome 1 of\n2 from music worth 2\n1 from any level 2\nend\nend"
        self.desk.say("course base " + text)
        self.desk.say("works ann algebra maths 2 9\nchoir music 1 4\npoem art 0 5")
        self.assertEqual(self.desk.say("ask base ann"), "wanting 1 18")
        self.assertEqual(self.desk.say("deal base ann"), "0 2: algebra 0, algebra 2")
        self.assertEqual(self.desk.say("why base ann"), "2 0 1; 1 0")
        self.desk.say("works more logic music 0 1\nink law 9 9")
        self.assertEqual(self.desk.say("plan base ann more"), "1")
        # Where it may count but once, both choices leave two wanting, and one work more helps either; the first is told.
        self.desk.say("course base " + text.partition("\n")[2])
        self.assertEqual(self.desk.say("ask base ann"), "wanting 2 17")
        self.assertEqual(self.desk.say("deal base ann"), "0 1: algebra 0, choir 1")
        self.assertEqual(self.desk.say("plan base ann more"), "1 logic")


if __name__ == "__main__":
    unittest.main()
