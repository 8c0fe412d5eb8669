"""[2], words; [5] and [6], works and their texts."""

import string
import unittest

from court.errors import CourtError, NoText
from court.works import is_word, read_works, show_works

KEY_WORDS = "often all some of from any or level mark worth end".split(" ")
GREATEST = 10**60 - 1


def name_of(number):
    return "w" + string.ascii_lowercase[number // 26] + string.ascii_lowercase[number % 26]


def many_works(many):
    return [(name_of(number), "maths", number, 2 * number) for number in range(many)]


def many_rows(many):
    return [f"{name_of(number)} maths {number} {2 * number}" for number in range(many)]


class Words(unittest.TestCase):
    def test_one_to_twelve_small_letters(self):
        for letter in string.ascii_lowercase:
            self.assertIs(is_word(letter), True)
            self.assertIs(is_word(letter * 12), True)
        self.assertIs(is_word("abcdefghijkl"), True)
        self.assertIs(is_word("mnopqrstuvwx"), True)

    def test_no_letters_and_thirteen(self):
        self.assertIs(is_word(""), False)
        self.assertIs(is_word("abcdefghijklm"), False)
        self.assertIs(is_word("a" * 5000), False)

    def test_other_signs(self):
        for bad in ["A", "Logic", "logiC", "a1", "1", "0", "a b", " a", "a ", " ", "a\n", "\n", "a\t", "a_b", "a-b", "."]:
            with self.subTest(bad=bad):
                self.assertIs(is_word(bad), False)

    def test_letters_beyond_a_to_z(self):
        for code in [0xE4, 0xDF, 0xE9, 0x131, 0x3B1, 0x430, 0xFF41, 0x1D41A]:
            with self.subTest(code=code):
                self.assertIs(is_word(chr(code)), False)
                self.assertIs(is_word("a" + chr(code)), False)

    def test_the_signs_beside_a_and_z(self):
        self.assertIs(is_word("`"), False)
        self.assertIs(is_word("{"), False)

    def test_key_words_are_none(self):
        for word in KEY_WORDS:
            with self.subTest(word=word):
                self.assertIs(is_word(word), False)

    def test_key_words_with_a_letter_more_or_less(self):
        for word in KEY_WORDS:
            for near in [word + "x", "x" + word, word[:-1], word[1:]]:
                with self.subTest(near=near):
                    self.assertIs(is_word(near), True)

    def test_what_is_no_text(self):
        for thing in [None, 0, 1, -1, True, False, [], ["a"], (), ("a",), {}, {"a": 1}, b"a", 1.5, object(), str]:
            with self.subTest(thing=thing):
                self.assertIs(is_word(thing), False)

    def test_asked_again_the_same(self):
        things = ["a"]
        self.assertIs(is_word(things), False)
        self.assertEqual(things, ["a"])
        self.assertIs(is_word("a"), is_word("a"))


class WrittenAndRead(unittest.TestCase):
    def check(self, works, text):
        self.assertEqual(show_works(works), text)
        told = read_works(text)
        self.assertEqual(told, works)
        self.assertIs(type(told), list)
        for work in told:
            self.assertIs(type(work), tuple)
            self.assertEqual([type(part) for part in work], [str, str, int, int])

    def test_no_works(self):
        self.check([], "")

    def test_one_work(self):
        self.check([("algebra", "maths", 2, 90)], "algebra maths 2 90")

    def test_the_order_stays(self):
        self.check(
            [("logic", "maths", 1, 75), ("algebra", "maths", 2, 90), ("zoo", "bio", 0, 10)],
            "logic maths 1 75\nalgebra maths 2 90\nzoo bio 0 10",
        )

    def test_forty_works(self):
        self.check(many_works(40), "\n".join(many_rows(40)))

    def test_the_edges_of_numbers(self):
        self.check([("a", "b", 0, 0)], "a b 0 0")
        self.check([("a", "b", GREATEST, 0)], "a b " + "9" * 60 + " 0")
        self.check([("a", "b", 0, GREATEST)], "a b 0 " + "9" * 60)
        self.check([("a", "b", 10**59, 10**59)], "a b 1" + "0" * 59 + " 1" + "0" * 59)
        self.check([("a", "b", 10, 100)], "a b 10 100")

    def test_the_edges_of_words(self):
        self.check([("a", "abcdefghijkl", 1, 2), ("mnopqrstuvwx", "z", 3, 4)], "a abcdefghijkl 1 2\nmnopqrstuvwx z 3 4")

    def test_a_name_may_be_a_field_too(self):
        self.check([("maths", "maths", 1, 2), ("logic", "maths", 1, 2)], "maths maths 1 2\nlogic maths 1 2")

    def test_longer_lists_are_written_likewise(self):
        for many in [41, 80]:
            self.assertEqual(show_works(many_works(many)), "\n".join(many_rows(many)))

    def test_what_was_told_is_the_askers_own(self):
        for text in ["", "a b 1 2\nc d 3 4"]:
            first = read_works(text)
            second = read_works(text)
            self.assertIsNot(first, second)
            self.assertEqual(first, second)
            first.append(("e", "f", 5, 6))
            self.assertEqual(read_works(text), second)

    def test_what_is_handed_in_stays(self):
        works = many_works(3)
        first = show_works(works)
        self.assertEqual(works, many_works(3))
        self.assertEqual(show_works(works), first)


class Refused(unittest.TestCase):
    GOOD = "logic maths 1 75"

    def refused(self, text, row):
        with self.assertRaises(NoText) as caught:
            read_works(text)
        self.assertEqual(caught.exception.row, row)
        self.assertIs(type(caught.exception.row), int)
        self.assertIsInstance(caught.exception, CourtError)

    def refused_row(self, bad):
        with self.subTest(bad=bad):
            self.refused(bad, 1)
            self.refused(f"{self.GOOD}\n{bad}", 2)
            self.refused(f"{bad}\n{self.GOOD}", 1)
            self.refused(f"{self.GOOD}\nzoo bio 0 0\n{bad}\nart art 0 0", 3)

    def test_too_few_or_too_many(self):
        for bad in ["a", "a b", "a b 1", "a 1 2", "1 2", "a b 1 2 3", "a b c 1 2", "a b 1 2 c"]:
            self.refused_row(bad)

    def test_a_word_and_a_number_change_places(self):
        for bad in ["a 1 b 2", "1 2 a b", "a b 1 c", "a b c 1", "1 b 1 2", "a 1 1 2"]:
            self.refused_row(bad)

    def test_a_blank_too_many(self):
        for bad in [" a b 1 2", "a b 1 2 ", "a  b 1 2", "a b  1 2", "a b 1  2", " ", "   ", "    "]:
            self.refused_row(bad)

    def test_a_blank_in_the_place_of_a_part(self):
        for bad in [" b 1 2", "a  1 2", "a b  2", "a b 1 "]:
            self.refused_row(bad)

    def test_a_tab(self):
        for bad in ["a\tb 1 2", "a b\t1 2", "a b 1\t2", "a b 1 2\t", "\ta b 1 2", "a\tb\t1\t2", "\t"]:
            self.refused_row(bad)

    def test_an_empty_row(self):
        self.refused("a b 1 2\n\nc d 1 2", 2)
        self.refused("a b 1 2\n", 2)
        self.refused("a b 1 2\nc d 1 2\n", 3)
        self.refused("\na b 1 2", 1)
        self.refused("\n", 1)
        self.refused("\n\n", 1)
        self.refused("a b 1 2\n\n", 2)

    def test_a_0_ahead_of_a_number(self):
        for bad in ["a b 01 2", "a b 1 02", "a b 00 2", "a b 1 00", "a b 0" + "9" * 59 + " 1"]:
            self.refused_row(bad)

    def test_a_sign_ahead_of_a_number(self):
        for bad in ["a b +1 2", "a b -1 2", "a b 1 +2", "a b 1 -2", "a b -0 2", "a b 1 +0"]:
            self.refused_row(bad)

    def test_other_signs_in_numbers(self):
        for bad in ["a b 1_0 2", "a b 1.0 2", "a b 1 2e3", "a b 0x1 2", "a b 1 2,", "a b 1 /", "a b : 2"]:
            self.refused_row(bad)

    def test_sixty_one_figures(self):
        self.refused_row("a b 1" + "0" * 60 + " 2")
        self.refused_row("a b 2 " + "9" * 61)
        self.refused_row("a b " + "0" * 61 + " 2")
        self.refused_row("a b 1 " + "9" * 1900)

    def test_key_words(self):
        for word in KEY_WORDS:
            self.refused_row(f"{word} b 1 2")
            self.refused_row(f"a {word} 1 2")

    def test_no_words(self):
        for word in ["abcdefghijklm", "A", "aB", "a1", "a-b", "a,"]:
            self.refused_row(f"{word} b 1 2")
            self.refused_row(f"a {word} 1 2")

    def test_a_name_that_a_row_ahead_has(self):
        self.refused("a b 1 2\na b 1 2", 2)
        self.refused("a b 1 2\nc d 1 2\na e 3 4", 3)
        self.refused("a b 1 2\nb a 1 2\nc a 1 2\nb c 1 2\na a 1 2", 4)

    def test_the_forty_first_row(self):
        self.refused("\n".join(many_rows(41)), 41)
        self.refused("\n".join(many_rows(80)), 41)
        self.refused("\n".join(many_rows(40)) + "\n", 41)
        self.refused("\n".join(many_rows(40) + ["no work"]), 41)
        self.refused("\n".join(many_rows(40) + [many_rows(1)[0]]), 41)

    def test_the_first_of_several_bad_rows(self):
        rows = many_rows(60)
        rows[44] = "bad"
        self.refused("\n".join(rows), 41)
        rows[30] = rows[2]
        self.refused("\n".join(rows), 31)
        rows[20] = "a b 01 2"
        self.refused("\n".join(rows), 21)
        rows[6] = ""
        self.refused("\n".join(rows), 7)
        rows[0] = "level b 1 2"
        self.refused("\n".join(rows), 1)

    def test_asked_again_it_is_refused_again(self):
        self.refused("a b 1 2\nbad", 2)
        self.refused("a b 1 2\nbad", 2)
        self.assertEqual(read_works("a b 1 2"), [("a", "b", 1, 2)])


if __name__ == "__main__":
    unittest.main()
