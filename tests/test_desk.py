"""[25], the desk's rows and answers, and what it refuses; [14] and [2] so far as they are seen from the desk."""

import unittest

from by_words import GREATEST
from court.desk import Desk
from court.errors import CourtError, NoName, NoPlan, NoRow, NoText, TooMany

COURSE = "often 2 maths\nall\n1 from maths level 1\nsome 1 of\n1 of logic worth 3\n2 from art or music mark 4\nend\nend"
WORKS = "algebra maths 2 9\nlogic maths 1 7"
ARTS = "poem art 0 5\nchoir music 3 4\nink art 0 3"
SOMES = "some 8 of\n" + "1 from any\n" * 16 + "end"

# Each with its answer, in this order, at one desk.
ROWS = [
    ("course base " + COURSE, "ok"),
    ("works ann " + WORKS, "ok"),
    ("works bob ", "ok"),
    ("works more " + ARTS, "ok"),
    ("show course base", COURSE),
    ("show works ann", WORKS),
    ("show works bob", ""),
    ("choices base", "2"),
    ("ask base ann", "met 30"),
    ("deal base ann", "0 1: algebra 0, logic 1"),
    ("why base ann", "0; 2 2"),
    ("ask base bob", "wanting 2 0"),
    ("deal base bob", "0 1: "),
    ("why base bob", "2 0 1; 3 0 2"),
    ("ask base more", "wanting 1 9"),
    ("deal base more", "0 2: choir 2, poem 2"),
    ("why base more", "2 0 1; 1 0"),
    ("plan base ann more", "0"),
    ("plan base bob more", "1 choir poem"),
    ("plan base more bob", "1"),
    ("works ann algebra maths 2 9", "ok"),
    ("ask base ann", "wanting 1 9"),
    ("deal base ann", "0 1: algebra 0"),
    ("plan base ann more", "0 choir poem"),
    ("drop works ann", "ok"),
    ("drop course base", "ok"),
]


class DeskCase(unittest.TestCase):
    def setUp(self):
        self.desk = Desk()

    def say(self, row, told):
        answer = self.desk.say(row)
        self.assertIs(type(answer), str)
        self.assertEqual(answer, told, row)

    def refuse(self, said, error, **fields):
        with self.assertRaises(CourtError, msg=said) as caught:
            self.desk.say(said)
        self.assertIs(type(caught.exception), error, said)
        for field in fields:
            self.assertEqual(getattr(caught.exception, field), fields[field], said)

    def keep(self):
        self.say("course base " + COURSE, "ok")
        self.say("works ann " + WORKS, "ok")
        self.say("works more " + ARTS, "ok")


class Answers(DeskCase):
    def test_each_row(self):
        for row, told in ROWS:
            self.say(row, told)

    def test_asked_again(self):
        for row, told in ROWS:
            self.say(row, told)
            if row.split(" ")[0] != "drop":
                self.say(row, told)

    def test_one_leaf(self):
        self.say("course one 2 from any worth 2", "ok")
        self.say("works ann poem art 0 5", "ok")
        self.say("choices one", "1")
        self.say("ask one ann", "wanting 1 10")
        self.say("deal one ann", "0: poem 0")
        self.say("why one ann", "1 0")
        self.say("works bob ink law 0 3\nzoo art 0 0", "ok")
        self.assertIn(self.desk.say("plan one ann bob"), ["0 ink", "0 zoo"])
        self.say("show course one", "2 from any worth 2")

    def test_leaf_numbers_of_two_figures(self):
        self.say("course long all\n" + "1 from art\n" * 9 + "2 of poem\n1 from art\n1 of logic\nend", "ok")
        self.say("works ann logic maths 0 1", "ok")
        self.say("works none ", "ok")
        self.say("deal long ann", "0 1 2 3 4 5 6 7 8 9 10 11: logic 11")
        self.say("why long ann", "12 0 1 2 3 4 5 6 7 8 9 10")
        self.say("why long none", "13 0 1 2 3 4 5 6 7 8 9 10 11")

    def test_marks_of_sixty_figures(self):
        self.say("course one 9 from any worth 9", "ok")
        self.say(f"works ann poem art {GREATEST} {GREATEST}\nink law {GREATEST} {GREATEST - 1}", "ok")
        self.say("ask one ann", f"wanting 7 {9 * (2 * GREATEST - 1)}")
        self.say("show works ann", f"poem art {GREATEST} {GREATEST}\nink law {GREATEST} {GREATEST - 1}")

    def test_nothing_wanted(self):
        self.say("course easy some 1 of\n1 from any\n0 from any\nend", "ok")
        self.say("works none ", "ok")
        self.say("ask easy none", "met 0")
        self.say("deal easy none", "1: ")
        self.say("why easy none", "1 0; 0")
        self.say("plan easy none none", "0")

    def test_a_choice_of_very_many(self):
        self.say("course many " + SOMES, "ok")
        self.say("choices many", "12870")
        # Five groups of two within a group, and six leaves: 32.
        twos = "all\n" + "some 1 of\n1 from any\n1 from art\nend\n" * 5 + "1 from any\n" * 6 + "end"
        self.say("course twos " + twos, "ok")
        self.say("choices twos", "32")
        self.say("works none ", "ok")
        self.say("ask twos none", "wanting 11 0")


class Kept(DeskCase):
    def test_a_course_and_a_learner_by_the_same_word(self):
        self.say("course ann 1 from any", "ok")
        self.refuse("show works ann", NoName, name="ann")
        self.say("works ann poem art 0 5", "ok")
        self.say("show course ann", "1 from any")
        self.say("show works ann", "poem art 0 5")
        self.say("ask ann ann", "met 5")
        self.say("drop course ann", "ok")
        self.refuse("show course ann", NoName, name="ann")
        self.say("show works ann", "poem art 0 5")
        self.say("course ann 2 from any", "ok")
        self.say("drop works ann", "ok")
        self.refuse("show works ann", NoName, name="ann")
        self.say("show course ann", "2 from any")

    def test_one_in_the_place_of_another(self):
        self.keep()
        self.say("course base 1 of poem", "ok")
        self.say("works ann poem art 0 5", "ok")
        self.say("show course base", "1 of poem")
        self.say("show works ann", "poem art 0 5")
        self.say("ask base ann", "met 5")
        self.say("show works more", ARTS)

    def test_dropped(self):
        self.keep()
        self.say("drop course base", "ok")
        for row in ["drop course base", "show course base", "choices base", "ask base ann", "plan base ann more"]:
            self.refuse(row, NoName, name="base")
        self.say("drop works ann", "ok")
        for row in ["drop works ann", "show works ann"]:
            self.refuse(row, NoName, name="ann")
        self.say("show works more", ARTS)
        self.keep()
        self.say("ask base ann", "met 30")

    def test_two_desks(self):
        self.keep()
        other = Desk()
        for row in ["show course base", "show works ann", "drop works ann", "drop course base"]:
            with self.assertRaises(NoName):
                other.say(row)
        other.say("works ann ")
        other.say("course base 1 from any")
        self.say("show works ann", WORKS)
        self.say("show course base", COURSE)
        other.say("drop works ann")
        self.say("ask base ann", "met 30")

    def test_names_that_are_words_of_rows(self):
        # None of these is a key word of [2].
        for name in ["course", "works", "drop", "show", "choices", "ask", "deal", "why", "plan", "ok", "met", "wanting"]:
            self.say(f"course {name} 1 from any", "ok")
            self.say(f"works {name} {name} {name} 0 5", "ok")
            self.say(f"show course {name}", "1 from any")
            self.say(f"show works {name}", f"{name} {name} 0 5")
            self.say(f"choices {name}", "1")
            self.say(f"ask {name} {name}", "met 5")
            self.say(f"deal {name} {name}", f"0: {name} 0")
            self.say(f"why {name} {name}", "0")
        self.say("plan ask deal why", "0")
        self.say("drop course course", "ok")
        self.say("drop works works", "ok")
        self.refuse("show course course", NoName, name="course")
        self.refuse("show works works", NoName, name="works")


class Refused(DeskCase):
    def setUp(self):
        super().setUp()
        self.keep()

    def tearDown(self):
        # What is refused changes nothing.
        self.say("show course base", COURSE)
        self.say("show works ann", WORKS)
        self.say("show works more", ARTS)
        self.say("ask base ann", "met 30")
        for row in ["show course ann", "show course more", "show works base", "show course nobody"]:
            self.refuse(row, NoName)

    # Rows with every name known; each of them is answered.
    ROWS = [
        "show course base",
        "show works ann",
        "choices base",
        "ask base ann",
        "deal base ann",
        "why base ann",
        "plan base ann more",
    ]

    def test_no_str(self):
        for thing in [None, True, 0, 5, b"ask base ann", ["ask base ann"], ("ask", "base", "ann"), {}, 1.5, object()]:
            self.refuse(thing, NoRow)

    def test_another_form(self):
        for row in [
            "", " ", "\n", "ok", "base", "ask", "ann", "Ask base ann", "ASK base ann", "tell base ann", "asks base ann",
            "drop", "drop base", "drop base ann", "drop learner ann", "drop course", "drop works", "show", "show base",
            "show choices base", "show course", "show works", "drop course course ann", "course", "works", "course base",
            "works ann", "choices", "choices course base", "plan", "plan base", "plan base ann", "ask base", "deal base",
            "why base", "ask base ann more", "deal base ann more", "why base ann more", "plan base ann more more",
            "choices base ann", "show course base ann", "drop works ann more", "coursebase 1 from any", "keep ann x",
            "course\nbase 1 from any", "works\tann ", "ask\tbase\tann", "ask base\tann", "ask\nbase\nann",
        ]:  # fmt: skip
            self.refuse(row, NoRow)

    def test_a_blank_too_many(self):
        drops = ["drop course base", "drop works ann"]
        for row in self.ROWS + drops:
            self.refuse(" " + row, NoRow)
            self.refuse(row + " ", NoRow)
            for place, sign in enumerate(row):
                if sign == " ":
                    self.refuse(row[:place] + " " + row[place:], NoRow)
                    self.refuse(row[:place] + row[place + 1 :], NoRow)
        for row in ["course base 2 from any", "works ann poem art 0 5", "works ann "]:
            head, name, text = row.split(" ", 2)
            self.refuse(" " + row, NoRow)
            self.refuse(head + "  " + name + " " + text, NoRow)
            self.refuse(head + name + " " + text, NoRow)
            # Behind the second blank the text begins, so this one is the text's.
            self.refuse(head + " " + name + "  " + text, NoText, row=1)
            self.refuse(row + " ", NoText, row=1)

    def test_row_ends(self):
        for row in self.ROWS:
            for sign in ["\n", "\t", "\r"]:
                self.refuse(row + sign, NoRow)
                self.refuse(sign + row, NoRow)
        self.refuse("course base\n 1 from any", NoRow)
        self.refuse("works ann\n", NoRow)
        self.refuse("works \nann ", NoRow)

    def test_a_word_missing(self):
        for row in self.ROWS + ["drop course base", "drop works ann"]:
            words = row.split(" ")
            for place in range(len(words)):
                self.refuse(" ".join(words[:place] + words[place + 1 :]), NoRow)

    def test_another_thing_where_a_word_ought_to_stand(self):
        key_words = "often all some of from any or level mark worth end".split(" ")
        things = key_words + ["", "0", "a1", "Ann", "ann,", "an-n", "a_b", "abcdefghijklm", "\u00e4", "\n", "a\nb", ":"]
        for thing in things:
            for row in [
                f"course {thing} 1 from any", f"works {thing} ", f"works {thing} poem art 0 5", f"drop course {thing}",
                f"drop works {thing}", f"show course {thing}", f"show works {thing}", f"choices {thing}",
                f"ask {thing} ann", f"ask base {thing}", f"deal {thing} ann", f"deal base {thing}", f"why {thing} ann",
                f"why base {thing}", f"plan {thing} ann more", f"plan base {thing} more", f"plan base ann {thing}",
            ]:  # fmt: skip
                self.refuse(row, NoRow)

    def test_a_name_of_twelve_letters(self):
        self.say("works abcdefghijkl poem art 0 5", "ok")
        self.say("show works abcdefghijkl", "poem art 0 5")
        self.refuse("works abcdefghijklm poem art 0 5", NoRow)

    def test_no_row_goes_before_no_name(self):
        self.refuse("ask nobody mark", NoRow)
        self.refuse("plan nobody ann End", NoRow)
        self.refuse("show course nobody ", NoRow)

    def test_a_name_by_which_nothing_is_kept(self):
        for row, name in [
            ("drop course nobody", "nobody"),
            ("drop works nobody", "nobody"),
            ("show course nobody", "nobody"),
            ("show works nobody", "nobody"),
            ("choices nobody", "nobody"),
            # A learner is no course, and a course no learner.
            ("drop course ann", "ann"),
            ("drop works base", "base"),
            ("show course ann", "ann"),
            ("show works base", "base"),
            ("choices ann", "ann"),
            ("plan base base more", "base"),
            ("plan base ann base", "base"),
            ("plan base ann nobody", "nobody"),
            ("plan base nobody other", "nobody"),
            ("plan base nobody more", "nobody"),
            ("plan nobody other third", "nobody"),
            ("plan ann ann more", "ann"),
            ("plan nobody ann more", "nobody"),
        ]:
            self.refuse(row, NoName, name=name)
        for head in ["ask", "deal", "why"]:
            self.refuse(f"{head} nobody other", NoName, name="nobody")
            self.refuse(f"{head} base other", NoName, name="other")
            self.refuse(f"{head} nobody ann", NoName, name="nobody")
            self.refuse(f"{head} ann base", NoName, name="ann")
            self.refuse(f"{head} base base", NoName, name="base")

    def test_a_text_that_is_none(self):
        for text, row in [
            ("", 1),
            ("\n", 1),
            ("1 from any\n", 2),
            ("all\n1 from any", 3),
            ("all\n1 from any\nend\nend", 4),
            ("often 2 maths\noften 3 maths\n1 from any", 2),
            ("all\n1 from any\n1  from any\nend", 3),
            ("1 from any end", 1),
            (" 1 from any", 1),
        ]:
            self.refuse("course base " + text, NoText, row=row)
            self.refuse("course fresh " + text, NoText, row=row)
            self.refuse("show course fresh", NoName, name="fresh")
        for text, row in [
            (" ", 1),
            ("\n", 1),
            ("poem art 0 5\n", 2),
            ("poem art 0 5\npoem art 0 6", 2),
            ("poem art 0 5\nink art 0 06", 2),
            ("poem art 0", 1),
            ("poem art 0 5 6", 1),
            ("poem mark 0 5", 1),
        ]:
            self.refuse("works ann " + text, NoText, row=row)
            self.refuse("works fresh " + text, NoText, row=row)
            self.refuse("show works fresh", NoName, name="fresh")

    def test_forty_works_and_no_more(self):
        names = [first + second for first in "abcde" for second in "abcdefghi"]
        rows = [f"{name} art 0 1" for name in names]
        self.say("works forty " + "\n".join(rows[:40]), "ok")
        self.refuse("works forty " + "\n".join(rows[:41]), NoText, row=41)
        self.say("show works forty", "\n".join(rows[:40]))

    def test_too_many(self):
        self.say("course many " + SOMES, "ok")
        for row in ["ask many ann", "deal many ann", "why many ann", "plan many ann more"]:
            self.refuse(row, TooMany, most=32)
        self.say("choices many", "12870")
        self.say("show course many", SOMES)
        # Names come first.
        self.refuse("ask many nobody", NoName, name="nobody")
        self.refuse("plan many ann nobody", NoName, name="nobody")

    def test_no_plan(self):
        self.refuse("plan base more ann", NoPlan, name="algebra")
        self.refuse("plan base ann ann", NoPlan, name="algebra")
        self.refuse("plan base more more", NoPlan, name="poem")
        self.say("works late zoo law 0 0\nchoir law 0 0\nlogic maths 0 0", "ok")
        self.refuse("plan base more late", NoPlan, name="choir")
        self.refuse("plan base ann late", NoPlan, name="logic")

    def test_no_plan_goes_before_too_many(self):
        self.say("course many " + SOMES, "ok")
        self.refuse("plan many ann ann", NoPlan, name="algebra")
        self.refuse("plan many more more", NoPlan, name="poem")
        self.say("course many often 2 art\n" + SOMES, "ok")
        self.refuse("plan many ann more", NoPlan, name="poem")


if __name__ == "__main__":
    unittest.main()
