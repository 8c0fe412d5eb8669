"""[7] and [9], courses written and read; [10], the texts that are refused; [2], what is handed in and what is given."""

import copy
import itertools
import unittest

from court.errors import CourtError, NoText
from court.texts import read_course, show_course

KEY_WORDS = "often all some of from any or level mark worth end".split(" ")
WORDS = [letter * 2 for letter in "abcdefghijklmnopqrstuvwxyz"]
SIXTY = "9" * 60
GREATEST = 10**60 - 1
ANY = ("from", 1, [], 0, 0, 1)
ANY_ROW = "1 from any"


def text_of(*rows):
    return "\n".join(rows)


def rows_many(many):
    return [ANY_ROW] * many


def oftens_many(many):
    return [(WORDS[place], 1 + place % 9) for place in range(many)]


def often_rows(many):
    return [f"often {1 + place % 9} {WORDS[place]}" for place in range(many)]


class WrittenAndRead(unittest.TestCase):
    def check_rule(self, rule):
        self.assertIs(type(rule), tuple)
        kinds = [type(part) for part in rule]
        if rule[0] == "from":
            self.assertEqual(kinds, [str, int, list, int, int, int])
            self.assertEqual([type(word) for word in rule[2]], [str] * len(rule[2]))
        elif rule[0] == "of":
            self.assertEqual(kinds, [str, int, list, int, int])
            self.assertEqual([type(word) for word in rule[2]], [str] * len(rule[2]))
        else:
            self.assertEqual(kinds, [str, list] if rule[0] == "all" else [str, int, list])
            for inner in rule[-1]:
                self.check_rule(inner)

    def check(self, course, text):
        with self.subTest(text=text):
            before = copy.deepcopy(course)
            self.assertEqual(show_course(course), text)
            self.assertEqual(course, before)
            told = read_course(text)
            self.assertEqual(told, course)
            self.assertIs(type(told), tuple)
            self.assertIs(type(told[0]), list)
            for often in told[0]:
                self.assertIs(type(often), tuple)
                self.assertEqual([type(part) for part in often], [str, int])
            self.check_rule(told[1])

    def check_leaf(self, leaf, row):
        self.check(([], leaf), row)
        self.check(([("maths", 2)], leaf), text_of("often 2 maths", row))
        self.check(([], ("all", [leaf])), text_of("all", row, "end"))
        self.check(([], ("some", 1, [ANY, leaf])), text_of("some 1 of", ANY_ROW, row, "end"))

    def test_oftens(self):
        self.check(([], ANY), ANY_ROW)
        self.check(([("maths", 1)], ANY), text_of("often 1 maths", ANY_ROW))
        self.check(([("maths", 9)], ANY), text_of("often 9 maths", ANY_ROW))
        self.check(([("b", 3), ("a", 3)], ANY), text_of("often 3 b", "often 3 a", ANY_ROW))
        self.check((oftens_many(16), ANY), text_of(*often_rows(16), ANY_ROW))
        self.check((oftens_many(16), ("all", [ANY])), text_of(*often_rows(16), "all", ANY_ROW, "end"))

    def test_from_leaves(self):
        self.check_leaf(("from", 3, [], 0, 0, 1), "3 from any")
        self.check_leaf(("from", 3, ["maths"], 0, 0, 1), "3 from maths")
        self.check_leaf(("from", 3, ["maths", "art"], 0, 0, 1), "3 from maths or art")
        self.check_leaf(("from", 3, ["maths", "art", "bio"], 0, 0, 1), "3 from maths or art or bio")
        self.check_leaf(
            ("from", 3, ["h", "g", "f", "e", "d", "c", "b", "a"], 0, 0, 1), "3 from h or g or f or e or d or c or b or a"
        )

    def test_of_leaves(self):
        self.check_leaf(("of", 1, ["logic"], 0, 1), "1 of logic")
        self.check_leaf(("of", 2, ["logic", "algebra"], 0, 1), "2 of logic or algebra")
        self.check_leaf(
            ("of", 8, ["h", "g", "f", "e", "d", "c", "b", "a"], 0, 1), "8 of h or g or f or e or d or c or b or a"
        )

    def test_level_mark_and_worth_of_from_leaves(self):
        for words, shown in [([], "any"), (["maths"], "maths"), (["maths", "art"], "maths or art")]:
            for level, mark, worth in itertools.product([0, 1, 10, GREATEST], [0, 1, 20, GREATEST], [1, 2, 9]):
                row = f"4 from {shown}"
                row += f" level {level}" if level else ""
                row += f" mark {mark}" if mark else ""
                row += f" worth {worth}" if worth > 1 else ""
                self.check(([], ("from", 4, words, level, mark, worth)), row)

    def test_mark_and_worth_of_of_leaves(self):
        for words, shown in [(["logic"], "logic"), (["logic", "zoo"], "logic or zoo")]:
            for mark, worth in itertools.product([0, 1, 20, GREATEST], [1, 2, 9]):
                row = f"4 of {shown}"
                row += f" mark {mark}" if mark else ""
                row += f" worth {worth}" if worth > 1 else ""
                self.check(([], ("of", 4, words, mark, worth)), row)

    def test_rows_to_the_letter(self):
        self.check_leaf(("from", 2, ["a", "b"], 3, 4, 5), "2 from a or b level 3 mark 4 worth 5")
        self.check_leaf(("from", 2, [], 3, 0, 5), "2 from any level 3 worth 5")
        self.check_leaf(("of", 2, ["a", "b"], 4, 5), "2 of a or b mark 4 worth 5")
        self.check_leaf(("of", 2, ["a"], 0, 5), "2 of a worth 5")

    def test_wants(self):
        for want in [0, 1, 9, 10, 59, 60]:
            self.check_leaf(("from", want, [], 0, 0, 1), f"{want} from any")
            self.check_leaf(("of", want, ["a"], 0, 1), f"{want} of a")

    def test_numbers_of_sixty_figures(self):
        self.check_leaf(("from", 1, [], GREATEST, 0, 1), f"1 from any level {SIXTY}")
        self.check_leaf(("from", 1, ["a"], 0, 10**59, 1), "1 from a mark 1" + "0" * 59)
        self.check_leaf(("of", 1, ["a"], GREATEST, 1), f"1 of a mark {SIXTY}")

    def test_words_of_one_and_of_twelve_letters_and_near_key_words(self):
        self.check_leaf(("from", 1, ["abcdefghijkl", "z"], 0, 0, 1), "1 from abcdefghijkl or z")
        for word in KEY_WORDS:
            self.check_leaf(("of", 1, [word + "x", "x" + word], 0, 1), f"1 of {word}x or x{word}")
            self.check(([(word + "x", 4)], ANY), text_of(f"often 4 {word}x", ANY_ROW))

    def test_a_word_may_stand_in_several_leaves_and_be_field_and_name(self):
        self.check(
            ([("a", 2)], ("all", [("from", 1, ["a"], 0, 0, 1), ("from", 1, ["a"], 0, 0, 1), ("of", 1, ["a"], 0, 1)])),
            text_of("often 2 a", "all", "1 from a", "1 from a", "1 of a", "end"),
        )

    def test_groups_of_one_rule(self):
        self.check(([], ("all", [ANY])), text_of("all", ANY_ROW, "end"))
        self.check(([], ("some", 1, [ANY])), text_of("some 1 of", ANY_ROW, "end"))

    def test_groups_of_sixteen_rules(self):
        self.check(([], ("all", [ANY] * 16)), text_of("all", *rows_many(16), "end"))
        for many in range(1, 17):
            self.check(([], ("some", many, [ANY] * 16)), text_of(f"some {many} of", *rows_many(16), "end"))

    def test_many_as_great_as_the_number_of_rules(self):
        for many in range(1, 17):
            self.check(([], ("some", many, [ANY] * many)), text_of(f"some {many} of", *rows_many(many), "end"))

    def test_rules_of_a_group_may_be_groups(self):
        self.check(
            ([], ("some", 2, [("all", [ANY]), ("some", 1, [ANY, ANY])])),
            text_of("some 2 of", "all", ANY_ROW, "end", "some 1 of", ANY_ROW, ANY_ROW, "end", "end"),
        )
        sixteen = ("all", [("all", [ANY])] * 16)
        self.check(([], sixteen), text_of("all", *["all", ANY_ROW, "end"] * 16, "end"))

    def test_six_groups_within_one_another(self):
        rule = ANY
        for _ in range(6):
            rule = ("all", [rule])
        self.check(([], rule), text_of(*["all"] * 6, ANY_ROW, *["end"] * 6))
        rule = ANY
        for _ in range(3):
            rule = ("all", [("some", 1, [rule, ANY]), ANY])
        rows = ["all", "some 1 of"] * 3 + [ANY_ROW] + [ANY_ROW, "end", ANY_ROW, "end"] * 3
        self.check(([], rule), text_of(*rows))

    def test_more_than_six_groups_beside_one_another(self):
        self.check(([], ("all", [("all", [ANY])] * 9)), text_of("all", *["all", ANY_ROW, "end"] * 9, "end"))

    def test_sixteen_leaves_in_several_groups(self):
        rule = ("all", [("some", 3, [ANY] * 7), ANY, ("all", [ANY] * 8)])
        self.check(
            ([], rule),
            text_of("all", "some 3 of", *rows_many(7), "end", ANY_ROW, "all", *rows_many(8), "end", "end"),
        )

    def test_all_together(self):
        self.check(
            (
                [("maths", 2), ("art", 3)],
                (
                    "all",
                    [
                        ("from", 2, ["maths", "art"], 2, 50, 1),
                        ("some", 1, [("of", 1, ["logic"], 60, 3), ("all", [("from", 0, [], 0, 0, 9)])]),
                        ("of", 60, ["logic", "zoo"], 0, 1),
                    ],
                ),
            ),
            text_of(
                "often 2 maths",
                "often 3 art",
                "all",
                "2 from maths or art level 2 mark 50",
                "some 1 of",
                "1 of logic mark 60 worth 3",
                "all",
                "0 from any worth 9",
                "end",
                "end",
                "60 of logic or zoo",
                "end",
            ),
        )

    def test_somewhat_beyond_the_bounds_is_written_all_the_same(self):
        self.assertEqual(show_course(([], ("all", [ANY] * 17))), text_of("all", *rows_many(17), "end"))
        self.assertEqual(show_course((oftens_many(17), ANY)), text_of(*often_rows(17), ANY_ROW))
        self.assertEqual(show_course(([], ("from", 61, WORDS[:9], 10**60, 0, 10)))[:16], "61 from aa or bb")
        rule = ANY
        for _ in range(7):
            rule = ("all", [rule])
        self.assertEqual(show_course(([], rule)), text_of(*["all"] * 7, ANY_ROW, *["end"] * 7))


class Own(unittest.TestCase):
    TEXT = text_of("often 2 maths", "all", "2 from maths or art", "1 from any", "some 1 of", "1 of logic", "end", "end")

    def test_what_was_told_is_the_askers_own(self):
        first = read_course(self.TEXT)
        second = read_course(self.TEXT)
        self.assertEqual(first, second)
        first[0].append(("art", 3))
        rules = first[1][1]
        rules[0][2].append("bio")
        rules[1][2].append("bio")
        rules[2][2][0][2].append("zoo")
        rules[2][2].append(ANY)
        rules.append(ANY)
        self.assertEqual(show_course(second), self.TEXT)
        self.assertEqual(read_course(self.TEXT), second)

    def test_written_again_the_same(self):
        course = read_course(self.TEXT)
        self.assertEqual(show_course(course), self.TEXT)
        self.assertEqual(show_course(course), self.TEXT)
        self.assertEqual(course, read_course(self.TEXT))


class RefusedCase(unittest.TestCase):
    def refused(self, row, *rows):
        text = text_of(*rows)
        with self.subTest(text=text):
            for _ in range(2):
                with self.assertRaises(NoText) as caught:
                    read_course(text)
                self.assertEqual(caught.exception.row, row)
                self.assertIs(type(caught.exception.row), int)
                self.assertIsInstance(caught.exception, CourtError)

    def refused_row(self, bad):
        self.refused(1, bad)
        self.refused(2, "often 2 maths", bad)
        self.refused(2, "all", bad, "end")
        self.refused(3, "all", ANY_ROW, bad, ANY_ROW, "end")
        self.refused(5, "often 2 maths", "all", "some 1 of", ANY_ROW, bad, "end", "end")
        self.refused(2, ANY_ROW, bad)


class RefusedForms(RefusedCase):
    def test_rows_of_no_form(self):
        for bad in ["a", "1", "maths", "a b c", "1 2 3", "from any", "of a", "or", "any", "1 any", "1 or a", "x from any"]:
            self.refused_row(bad)
        for bad in ["1 level a", "1 From any", "1 from Any", "ALL", "End", "all:", "1 with any", "-", "~", "#", "0"]:
            self.refused_row(bad)

    def test_blanks_too_many(self):
        good = ["1 from any", "1 from a or b level 1 mark 2 worth 3", "1 of a or b mark 2 worth 3", "often 2 a", "all"]
        for row in good + ["some 1 of", "end"]:
            self.refused_row(" " + row)
            self.refused_row(row + " ")
            for place in range(len(row)):
                if row[place] == " ":
                    self.refused_row(row[:place] + " " + row[place:])
                    self.refused_row(row[:place] + row[place + 1:])

    def test_tabs(self):
        for row in ["1 from a or b level 1 mark 2 worth 3", "1 of a mark 2", "often 2 a", "all", "some 1 of", "end"]:
            self.refused_row("\t" + row)
            self.refused_row(row + "\t")
            self.refused_row(row + " \t")
            for place in range(len(row)):
                if row[place] == " ":
                    self.refused_row(row[:place] + "\t" + row[place + 1:])

    def test_a_word_or_a_number_too_few(self):
        for bad in ["1 from", "1 of", "1", "1 from a or", "1 of a or", "1 from any or", "1 from or", "1 of or a"]:
            self.refused_row(bad)
        for bad in ["1 from a level", "1 from a mark", "1 from a worth", "1 of a mark", "1 of a worth", "from a", "of a"]:
            self.refused_row(bad)
        for bad in ["1 from a level mark 2", "1 from a mark worth 2", "1 of a mark worth 2", "1 from level 2"]:
            self.refused_row(bad)
        for bad in ["often", "often 2", "often a", "some", "some of", "some 1", "1 from mark 2", "1 of mark 2", "1 from a b"]:
            self.refused_row(bad)

    def test_a_word_or_a_number_too_many(self):
        for bad in ["1 1 from a", "1 from a b", "1 from a or b c", "1 of a b", "1 from a or or b", "1 from a 1", "1 of a 1"]:
            self.refused_row(bad)
        for bad in ["1 from a level 1 2", "1 from a mark 1 2", "1 of a mark 1 2", "1 from a worth 2 2", "1 of a worth 2 x"]:
            self.refused_row(bad)
        for bad in ["often 2 a b", "often 2 2 a", "often 2 a or b", "all 1", "all all", "all of", "some 1 of 1"]:
            self.refused_row(bad)
        for bad in ["some 1 of a", "some 1 1 of", "some some 1 of", "end end", "end 1", "end all", "all end", "1 of of a"]:
            self.refused_row(bad)

    def test_another_word_in_the_head_of_a_group(self):
        for bad in ["all 1 of", "any 1 of", "of 1 of", "end 1 of", "x 1 of", "some 1 a", "some 1 or", "some 1 from", "some a of"]:
            self.refused_row(bad)
        for bad in ["some any of", "some 1 some", "some of of", "some 1 off", "some 1 o", "somes 1 of", "som 1 of", "alls", "al"]:
            self.refused_row(bad)

    def test_any_beside_another_word(self):
        for bad in ["1 from any or a", "1 from a or any", "1 from any or any", "1 from any a", "1 from any any"]:
            self.refused_row(bad)

    def test_any_where_no_any_may_stand(self):
        for bad in ["1 of any", "1 of a or any", "1 of any or a", "often 2 any", "any from a", "1 any a"]:
            self.refused_row(bad)

    def test_empty_rows(self):
        self.refused_row("")
        self.refused(1, "", ANY_ROW)
        self.refused(2, ANY_ROW, "")
        self.refused(2, ANY_ROW, "", "")
        self.refused(3, "often 2 a", "often 2 b", "", ANY_ROW)
        self.refused(3, "all", ANY_ROW, "", "end")
        self.refused(4, "all", ANY_ROW, "end", "")
        self.refused(2, "often 2 a", "")
        self.refused(1, "", "")

    def test_blanks_alone(self):
        for bad in [" ", "  ", "   ", "\t"]:
            self.refused_row(bad)

    def test_key_words_where_a_word_ought_to_stand(self):
        for word in KEY_WORDS:
            self.refused_row(f"1 of {word}")
            self.refused_row(f"1 of a or {word}")
            self.refused_row(f"1 of {word} or a")
            self.refused_row(f"1 from {word} or a")
            self.refused_row(f"1 from a or {word}")
            self.refused_row(f"often 2 {word}")
            if word != "any":
                self.refused_row(f"1 from {word}")

    def test_other_things_where_a_word_ought_to_stand(self):
        for word in ["1", "A", "aB", "a1", "abcdefghijklm", "a-b", "a,", "a_b", ","]:
            self.refused_row(f"1 of {word}")
            self.refused_row(f"1 of a or {word}")
            self.refused_row(f"1 from {word}")
            self.refused_row(f"1 from {word} or a")
            self.refused_row(f"often 2 {word}")

    def test_parts_in_another_order(self):
        for bad in ["1 from a mark 2 level 3", "1 from a worth 2 level 3", "1 from a worth 2 mark 3", "1 of a worth 2 mark 3"]:
            self.refused_row(bad)
        for bad in ["level 2 1 from a", "1 level 2 from a", "1 from level 2 a", "1 from a level 2 or b", "1 a from", "from 1 a"]:
            self.refused_row(bad)
        for bad in ["often a 2", "2 often a", "some of 1", "1 some of", "of 1 some", "1 from a mark 2 worth 3 level 4"]:
            self.refused_row(bad)

    def test_parts_twice(self):
        for key in ["level", "mark", "worth"]:
            self.refused_row(f"1 from a {key} 2 {key} 2")
            self.refused_row(f"1 from a {key} 2 {key} 3")
        for key in ["mark", "worth"]:
            self.refused_row(f"1 of a {key} 2 {key} 2")
        for bad in ["1 from a level 2 mark 3 level 2", "1 from from a", "1 from a from b", "1 of a of b", "1 from a of b"]:
            self.refused_row(bad)

    def test_a_level_of_an_of_leaf(self):
        for bad in ["1 of a level 2", "1 of a level 2 mark 3", "1 of a mark 3 level 2", "1 of a or b level 2 worth 3"]:
            self.refused_row(bad)

    def test_the_text_without_signs(self):
        with self.assertRaises(NoText) as caught:
            read_course("")
        self.assertEqual(caught.exception.row, 1)


class RefusedNumbers(RefusedCase):
    FORMS = ["{} from any", "{} of a", "1 from a level {}", "1 from any mark {}", "1 from a worth {}", "1 of a mark {}"]
    FORMS += ["1 of a worth {}", "often {} a", "some {} of"]

    def test_one_beyond_the_bound(self):
        for bad in ["61 from any", "61 of a", "100 from any", "1 from a worth 10", "1 of a worth 10"]:
            self.refused_row(bad)
        for bad in ["often 10 a", "often 0 a", "some 0 of", "some 17 of", "1 from a worth 0", "1 of a worth 0"]:
            self.refused_row(bad)

    def test_a_level_or_mark_of_0_or_a_worth_of_1_that_is_written(self):
        for bad in ["1 from a level 0", "1 from a mark 0", "1 from a worth 1", "1 of a mark 0", "1 of a worth 1"]:
            self.refused_row(bad)
        for bad in ["1 from a level 0 mark 2", "1 from a level 2 mark 0 worth 2", "1 from any level 2 mark 2 worth 1"]:
            self.refused_row(bad)

    def test_sixty_one_figures(self):
        for form in self.FORMS:
            self.refused_row(form.replace("{}", "1" + "0" * 60))
            self.refused_row(form.replace("{}", "9" * 61))
            self.refused_row(form.replace("{}", "0" * 60 + "1"))
            self.refused_row(form.replace("{}", "9" * 1900))

    def test_sixty_figures_beyond_a_small_bound(self):
        for form in ["{} from any", "{} of a", "1 from a worth {}", "1 of a worth {}", "often {} a", "some {} of"]:
            self.refused_row(form.replace("{}", SIXTY))

    def test_a_0_or_a_sign_ahead(self):
        for form in self.FORMS:
            for number in ["02", "002", "00", "+2", "-2", "-0", "+0", "-1"]:
                self.refused_row(form.replace("{}", number))

    def test_other_signs(self):
        for form in self.FORMS:
            for number in ["2.0", "2,", "2e0", "0x2", "1_0", "x", "two", "a", "/", ":", "'2'"]:
                self.refused_row(form.replace("{}", number))

    def test_the_bounds_themselves_are_read(self):
        for row in ["0 from any", "60 from any", f"1 from any level {SIXTY} mark {SIXTY} worth 9", "1 of a mark 1 worth 2"]:
            self.assertEqual(show_course(read_course(row)), row)


class RefusedWords(RefusedCase):
    def test_a_word_twice_in_one_leaf(self):
        for kind in ["from", "of"]:
            self.refused_row(f"1 {kind} a or a")
            self.refused_row(f"1 {kind} a or b or a")
            self.refused_row(f"1 {kind} a or b or b mark 2")
            self.refused_row(f"1 {kind} a or b or c or d or e or f or g or a")

    def test_a_ninth_word(self):
        for kind in ["from", "of"]:
            self.refused_row(f"1 {kind} a or b or c or d or e or f or g or h or i")
            self.refused_row(f"1 {kind} a or b or c or d or e or f or g or h or i mark 2")
            self.refused_row(f"1 {kind} " + " or ".join(WORDS))


class RefusedOftens(RefusedCase):
    def test_a_field_that_an_often_ahead_has(self):
        self.refused(2, "often 2 a", "often 2 a", ANY_ROW)
        self.refused(2, "often 2 a", "often 3 a", ANY_ROW)
        self.refused(3, "often 2 a", "often 2 b", "often 4 a", ANY_ROW)
        self.refused(4, "often 2 a", "often 2 b", "often 4 c", "often 1 b", ANY_ROW)
        self.refused(16, *often_rows(15), "often 1 aa", ANY_ROW)

    def test_a_seventeenth_often(self):
        self.refused(17, *often_rows(17), ANY_ROW)
        self.refused(17, *often_rows(20), ANY_ROW)
        self.refused(17, *often_rows(17))
        self.refused(17, *often_rows(16), "often 1 aa", ANY_ROW)

    def test_an_often_behind_a_row_of_the_rule(self):
        self.refused(2, ANY_ROW, "often 2 a")
        self.refused(3, "often 2 b", ANY_ROW, "often 2 a")
        self.refused(2, "all", "often 2 a", ANY_ROW, "end")
        self.refused(2, "some 1 of", "often 2 a", ANY_ROW, "end")
        self.refused(3, "all", ANY_ROW, "often 2 a", "end")
        self.refused(4, "all", ANY_ROW, "end", "often 2 a")
        self.refused(5, "all", "all", ANY_ROW, "end", "often 2 a", "end")
        self.refused(4, "often 2 b", "all", "all", "often 2 a", ANY_ROW, "end", "end")


class RefusedGroups(RefusedCase):
    def test_any_row_behind_the_rules_end(self):
        for row in [ANY_ROW, "1 of a", "all", "some 1 of", "end", "often 2 a", "", "x"]:
            self.refused(2, ANY_ROW, row)
            self.refused(2, ANY_ROW, row, row)
            self.refused(3, "often 2 b", ANY_ROW, row)
            self.refused(4, "all", ANY_ROW, "end", row)
            self.refused(4, "some 1 of", ANY_ROW, "end", row)
            self.refused(6, "all", "all", ANY_ROW, "end", "end", row, "end")

    def test_an_end_without_an_open_group(self):
        self.refused(1, "end")
        self.refused(1, "end", ANY_ROW)
        self.refused(2, "often 2 a", "end")
        self.refused(2, ANY_ROW, "end")
        self.refused(4, "all", ANY_ROW, "end", "end")

    def test_an_end_of_a_group_without_rules(self):
        self.refused(2, "all", "end")
        self.refused(2, "some 1 of", "end")
        self.refused(2, "some 2 of", "end")
        self.refused(3, "all", "all", "end", ANY_ROW, "end")
        self.refused(4, "all", ANY_ROW, "all", "end", "end")
        self.refused(4, "all", ANY_ROW, "some 1 of", "end", "end")

    def test_an_end_of_some_with_fewer_rules(self):
        for many in range(1, 17):
            self.refused(many + 1, f"some {many} of", *rows_many(many - 1), "end")
        self.refused(5, "some 2 of", "all", ANY_ROW, "end", "end")
        self.refused(5, "some 3 of", "some 2 of", ANY_ROW, ANY_ROW, "1 from", "end")
        self.refused(7, "some 2 of", "all", ANY_ROW, ANY_ROW, ANY_ROW, "end", "end")
        self.refused(4, "all", "some 2 of", ANY_ROW, "end", "end")

    def test_a_seventeenth_leaf_of_the_course(self):
        self.refused(18, "all", *rows_many(17), "end")
        self.refused(20, "all", "all", *rows_many(8), "end", *rows_many(9), "end")
        self.refused(20, "all", "all", *rows_many(15), "end", *rows_many(2), "end")
        self.refused(21, "all", "all", *rows_many(16), "end", "all", ANY_ROW, "end", "end")
        self.refused(20, "all", "all", *rows_many(16), "end", "1 of a", "end")

    def test_a_group_behind_the_sixteenth_leaf_is_refused_at_its_own_first_leaf_or_end(self):
        ahead = ["all", "all", *rows_many(16), "end"]
        self.refused(21, *ahead, "all", ANY_ROW, "end", "end")
        self.refused(21, *ahead, "some 1 of", "end", "end")
        self.refused(21, *ahead, "all")

    def test_a_seventeenth_rule_of_a_group(self):
        self.refused(18, "all", *rows_many(16), ANY_ROW, "end")
        self.refused(18, "all", *rows_many(16), "all", ANY_ROW, "end", "end")
        self.refused(18, "all", *rows_many(16), "some 1 of", ANY_ROW, "end", "end")
        self.refused(18, "some 16 of", *rows_many(16), "all", ANY_ROW, "end", "end")
        self.refused(19, "all", "all", *rows_many(16), "all", ANY_ROW, "end", "end", "end")
        self.refused(50, "all", *["all", ANY_ROW, "end"] * 16, "all", ANY_ROW, "end", "end")
        self.refused(50, "all", *["all", ANY_ROW, "end"] * 16, ANY_ROW, "end")

    def test_a_seventh_group_within_one_another(self):
        self.refused(7, *["all"] * 7, ANY_ROW, *["end"] * 7)
        self.refused(7, *["some 1 of"] * 7, ANY_ROW, *["end"] * 7)
        self.refused(8, "often 2 a", *["all"] * 7, ANY_ROW, *["end"] * 7)
        self.refused(8, *["all"] * 6, ANY_ROW, "all", ANY_ROW, *["end"] * 7)
        self.refused(10, *["all"] * 6, ANY_ROW, "end", "all", "all", ANY_ROW, *["end"] * 7)
        self.refused(7, *["all"] * 8)


class RefusedEnds(RefusedCase):
    def test_oftens_alone(self):
        self.refused(2, "often 2 a")
        self.refused(3, "often 2 a", "often 2 b")
        self.refused(17, *often_rows(16))

    def test_open_groups(self):
        self.refused(2, "all")
        self.refused(2, "some 2 of")
        self.refused(3, "all", ANY_ROW)
        self.refused(4, "some 2 of", ANY_ROW, ANY_ROW)
        self.refused(5, "all", "all", ANY_ROW, "end")
        self.refused(3, "often 2 a", "all")
        self.refused(7, *["all"] * 6)
        self.refused(18, "all", *rows_many(16))

    def test_the_first_of_several_bad_rows(self):
        rows = ["often 2 a", "all", *rows_many(17), "end", "end"]
        self.refused(19, *rows)
        rows[12] = "1 from a level 0"
        self.refused(13, *rows)
        rows[8] = "often 2 b"
        self.refused(9, *rows)
        rows[5] = "end"
        rows[6] = "end"
        self.refused(7, *rows)
        rows[2] = ""
        self.refused(3, *rows)
        rows[1] = "often 2 a"
        self.refused(2, *rows)
        rows[0] = "end"
        self.refused(1, *rows)

    def test_a_bad_row_ahead_of_an_end_that_is_missing(self):
        self.refused(2, "all", "1 of any")
        self.refused(3, "all", "all", "often 1 a", ANY_ROW)


class AllShortTexts(unittest.TestCase):
    """Every text of up to six rows out of a few, held against the courses that the grammar makes."""

    ROWS = ["often 2 a", "all", "some 2 of", ANY_ROW, "end"]

    def rules_of_rows(self, many):
        if many == 1:
            yield (ANY_ROW,)
        for head, least in [("all", 1), ("some 2 of", 2)]:
            for inner, rules in self.lists_of_rows(many - 2):
                if rules >= least:
                    yield (head, *inner, "end")

    def lists_of_rows(self, many):
        if many == 0:
            yield (), 0
        for first in range(1, many + 1):
            for rule in self.rules_of_rows(first):
                for rest, rules in self.lists_of_rows(many - first):
                    yield rule + rest, rules + 1

    def whole_texts(self, most):
        whole = set()
        for many in range(1, most + 1):
            whole.update(self.rules_of_rows(many))
            whole.update(("often 2 a", *rule) for rule in self.rules_of_rows(many - 1))
        return whole

    def test_just_the_whole_ones_are_read(self):
        whole = self.whole_texts(6)
        for many in range(1, 7):
            for rows in itertools.product(self.ROWS, repeat=many):
                try:
                    told = show_course(read_course(text_of(*rows)))
                except NoText:
                    self.assertNotIn(rows, whole)
                else:
                    self.assertIn(rows, whole)
                    self.assertEqual(told, text_of(*rows))

    def test_the_told_row_is_the_first_with_which_no_text_begins(self):
        # Three heads want at most seven rows more to make a whole rule.
        begun = set()
        for rows in self.whole_texts(10):
            begun.update(rows[:many] for many in range(len(rows) + 1))
        for rows in itertools.product(self.ROWS, repeat=3):
            bad = [many for many in range(1, 4) if rows[:many] not in begun]
            if bad:
                with self.subTest(rows=rows):
                    with self.assertRaises(NoText) as caught:
                        read_course(text_of(*rows))
                    self.assertEqual(caught.exception.row, bad[0])


if __name__ == "__main__":
    unittest.main()
