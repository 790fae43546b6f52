"""[G1] names and texts, and [A2] what whole numbers are and what is refused: measurewise.signs."""

import copy
import unittest

from measurewise.errors import BadName, BadNumber
from measurewise.signs import is_name, is_text, is_whole, need_name, need_whole
from samples import no_numbers_no_texts

WORDS = ("unit", "take", "let", "fun", "show", "if", "then", "else", "loop", "for", "do")
NAMES = ("a", "z", "m", "az", "speed", "abcdefgh", "zzzzzzzz", "units", "un", "lets", "showing", "iff", "type", "none")
NO_NAMES = ("", "abcdefghi", "a" * 4000, "A", "Unit", "aB", "a1", "1", "a b", " a", "a ", "a\n", "\n", "\t", "a_", "-",
            "a-b", "`", "{", "a`", "a{", "[m]", "m^2", "a,b")


class Whole(unittest.TestCase):
    def test_ints_are_whole(self):
        for thing in (0, 1, -1, 2, 12, 10 ** 9, -(10 ** 200), 10 ** 3999):
            self.assertIs(is_whole(thing), True)

    def test_true_and_false_are_none(self):
        self.assertIs(is_whole(True), False)
        self.assertIs(is_whole(False), False)

    def test_nothing_else_is(self):
        for thing in no_numbers_no_texts() + ["", "0", "1", "a", (1, 2), "\n"]:
            self.assertIs(is_whole(thing), False)


class Name(unittest.TestCase):
    def test_names(self):
        for thing in NAMES:
            with self.subTest(thing=thing):
                self.assertIs(is_name(thing), True)

    def test_each_letter_is_one_and_no_other_sign_is(self):
        for place in range(128):
            if place == ord("%"):
                continue
            with self.subTest(place=place):
                self.assertIs(is_name(chr(place)), chr(place) in "abcdefghijklmnopqrstuvwxyz")

    def test_an_odd_sign_at_any_place(self):
        for place in range(8):
            letters = list("abcdefgh")
            letters[place] = "Q"
            self.assertIs(is_name("".join(letters)), False)

    def test_one_to_eight_letters(self):
        for length in range(20):
            with self.subTest(length=length):
                self.assertIs(is_name("q" * length), 1 <= length <= 8)

    def test_the_eleven_words_are_none(self):
        self.assertEqual(len(set(WORDS)), 11)
        for word in WORDS:
            with self.subTest(word=word):
                self.assertIs(is_name(word), False)
                self.assertIs(is_name(word + "x"), True)
                self.assertIs(is_name("x" + word), True)

    def test_other_texts_and_things_are_none(self):
        for thing in NO_NAMES:
            with self.subTest(thing=thing):
                self.assertIs(is_name(thing), False)
        for thing in no_numbers_no_texts() + [0, 1, -7, (1, 2), ["a"], ("a",)]:
            self.assertIs(is_name(thing), False)


class Text(unittest.TestCase):
    def test_texts(self):
        for thing in ("", " ", "~", "\n", "\n\n", "a", "unit m\nshow 3[m]", "A{}|`@", "show 1 / 2  "):
            with self.subTest(thing=thing):
                self.assertIs(is_text(thing), True)

    def test_length(self):
        for sign in ("a", " ", "~", "\n"):
            self.assertIs(is_text(sign * 3999), True)
            self.assertIs(is_text(sign * 4000), True)
            self.assertIs(is_text(sign * 4001), False)

    def test_signs(self):
        for place in range(32):
            self.assertIs(is_text(chr(place)), chr(place) == "\n")
        for place in range(32, 127):
            if place != ord("%"):
                self.assertIs(is_text(chr(place)), True)
        self.assertIs(is_text(chr(127)), False)

    def test_a_tab_at_any_place(self):
        for text in ("\t", "a\t", "\ta", "a\tb", "a" * 3999 + "\t", "\t" + "a" * 3999):
            self.assertIs(is_text(text), False)

    def test_other_things_are_none(self):
        for thing in no_numbers_no_texts() + [0, 1, (1, 2), ["a"], ("a",)]:
            self.assertIs(is_text(thing), False)


class NeedWhole(unittest.TestCase):
    def test_one_bound(self):
        for least in (-5, 0, 1, 10 ** 30):
            self.assertEqual(need_whole(least, least), least)
            self.assertEqual(need_whole(least + 1, least), least + 1)
            self.assertEqual(need_whole(least + 10 ** 100, least), least + 10 ** 100)
            with self.assertRaises(BadNumber):
                need_whole(least - 1, least)

    def test_two_bounds(self):
        for least, most in ((0, 12), (-5, 5), (-9, -3), (-1, 0), (3, 4)):
            for thing in (least, least + 1, most - 1, most):
                self.assertEqual(need_whole(thing, least, most), thing)
            for thing in (least - 1, most + 1, least - 10 ** 50, most + 10 ** 50):
                with self.assertRaises(BadNumber):
                    need_whole(thing, least, most)

    def test_bounds_that_meet(self):
        self.assertEqual(need_whole(0, 0, 0), 0)
        for thing in (-1, 1):
            with self.assertRaises(BadNumber):
                need_whole(thing, 0, 0)

    def test_most_by_name_and_none(self):
        self.assertEqual(need_whole(10 ** 9, 0, None), 10 ** 9)
        self.assertEqual(need_whole(thing=4, least=1, most=4), 4)
        with self.assertRaises(BadNumber):
            need_whole(5, 1, most=4)

    def test_what_is_told_is_a_whole_number(self):
        self.assertIs(is_whole(need_whole(1, 0, 1)), True)

    def test_what_is_no_whole_number(self):
        for thing in no_numbers_no_texts() + ["", "1", "a", (1, 2)]:
            with self.assertRaises(BadNumber):
                need_whole(thing, -10)
            with self.assertRaises(BadNumber):
                need_whole(thing, -10, 10)


class NeedName(unittest.TestCase):
    def test_names(self):
        for thing in NAMES:
            self.assertEqual(need_name(thing), thing)

    def test_what_is_no_name(self):
        for thing in list(NO_NAMES) + list(WORDS) + no_numbers_no_texts() + [0, 1, (1, 2)]:
            with self.assertRaises(BadName):
                need_name(thing)


class HandedIn(unittest.TestCase):
    def test_nothing_handed_in_is_changed(self):
        for thing in ([], [1, [2, "a"]], {"a": [1]}, (1, [2]), ["a", "b"]):
            before = copy.deepcopy(thing)
            for ask in (is_whole, is_name, is_text):
                ask(thing)
            with self.assertRaises(BadNumber):
                need_whole(thing, 0, 1)
            with self.assertRaises(BadName):
                need_name(thing)
            self.assertEqual(thing, before)

    def test_a_refusal_changes_no_later_answer(self):
        with self.assertRaises(BadName):
            need_name("unit")
        with self.assertRaises(BadNumber):
            need_whole(13, 0, 12)
        self.assertEqual(need_name("units"), "units")
        self.assertEqual(need_whole(12, 0, 12), 12)


if __name__ == "__main__":
    unittest.main()
