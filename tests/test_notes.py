import itertools
import unittest

from fewstones.errors import NoText
from fewstones.notes import read, shown
from tests.samples import (all_layings, ended_told, load_told, loads, long_layings, mixed, neat_laying_told, no_signs,
                           no_texts, shown_told, some_layings)


class Shown(unittest.TestCase):
    def test_examples(self):
        self.assertEqual(shown([1, 1]), "++")
        self.assertEqual(shown([1]), "+")
        self.assertEqual(shown([-1]), "-")

    def test_the_greatest_weight_first(self):
        self.assertEqual(shown([1, 0, -1]), "-0+")
        self.assertEqual(shown([-1, 0, 0, 1]), "+00-")
        self.assertEqual(shown([0, 1]), "+0")
        self.assertEqual(shown([0, 0, 0, -1]), "-000")
        self.assertEqual(shown([1, -1, -1]), "--+")

    def test_no_stone_used(self):
        for length in (0, 1, 2, 3, 64, 399, 400):
            self.assertEqual(shown([0] * length), "0")

    def test_noughts_at_the_end_are_left_out(self):
        self.assertEqual(shown([1, 0]), "+")
        self.assertEqual(shown([-1, 0, 0, 0]), "-")
        self.assertEqual(shown([0, 1, 0, -1, 0, 0]), "-0+0")
        self.assertEqual(shown([1] + [0] * 399), "+")

    def test_is_not_made_neat(self):
        self.assertEqual(shown([1, 1, 1]), "+++")
        self.assertEqual(shown([1, -1]), "-+")
        self.assertEqual(shown([1] * 400), "+" * 400)
        self.assertEqual(shown([-1] * 400), "-" * 400)

    def test_held_against_the_document(self):
        for laying in list(all_layings(7)) + long_layings():
            told = shown(laying)
            self.assertIs(type(told), str)
            self.assertEqual(told, shown_told(laying))


class Read(unittest.TestCase):
    def test_examples(self):
        self.assertEqual(read("0"), [])
        self.assertEqual(read("++"), [1, 1])
        self.assertEqual(read("+"), [1])
        self.assertEqual(read("-"), [-1])

    def test_the_greatest_weight_first(self):
        self.assertEqual(read("-0+"), [1, 0, -1])
        self.assertEqual(read("+00-"), [-1, 0, 0, 1])
        self.assertEqual(read("+0"), [0, 1])
        self.assertEqual(read("-000"), [0, 0, 0, -1])
        self.assertEqual(read("-0+0"), [0, 1, 0, -1])

    def test_is_not_made_neat(self):
        self.assertEqual(read("-+"), [1, -1])
        self.assertEqual(read("+" * 400), [1] * 400)
        self.assertEqual(read("-+" * 200), [1, -1] * 200)

    def test_long_ones(self):
        self.assertEqual(read("+" + "0" * 399), [0] * 399 + [1])
        self.assertEqual(read("-" + "0" * 398 + "+"), [1] + [0] * 398 + [-1])

    def test_what_is_shown_is_read_as_the_same_laying_ended(self):
        for laying in list(all_layings(7)) + long_layings():
            self.assertEqual(read(shown(laying)), ended_told(laying))

    def test_what_is_read_is_shown_as_the_same_text(self):
        texts = ["0", "+" * 400, "-" + "0" * 399]
        for length in range(7):
            texts += [first + "".join(signs) for first in "+-" for signs in itertools.product("+0-", repeat=length)]
        for text in texts:
            told = read(text)
            self.assertIs(type(told), list)
            self.assertTrue(all(type(thing) is int for thing in told), text)
            self.assertEqual(told, ended_told(told))
            self.assertEqual(shown(told), text)

    def test_the_load_stays(self):
        for load in loads():
            self.assertEqual(load_told(read(shown(neat_laying_told(load)))), load)
        for laying in some_layings():
            self.assertEqual(load_told(read(shown(laying))), load_told(laying))


class NoTexts(unittest.TestCase):
    def refused(self, thing, place=None):
        with self.subTest(place=place, kind=type(thing).__name__):
            with self.assertRaises(NoText):
                read(thing)

    def test_what_is_no_text_of_any_kind(self):
        for place, thing in enumerate(no_texts()):
            self.refused(thing, place)

    def test_without_signs(self):
        self.refused("")

    def test_any_other_sign_at_any_place(self):
        for sign in no_signs():
            for text in (sign, sign + "+", "+" + sign, "-0" + sign + "+", sign + "0", "0" + sign, sign * 3,
                         "+0-0" + sign, sign + "-" * 399, "+" * 399 + sign, "+" * 200 + sign + "0" * 199):
                self.refused(text, ascii(sign))

    def test_any_other_sign_at_each_place_of_a_long_one(self):
        text = shown_told(mixed(399, 4) + [1])
        self.assertEqual(len(text), 400)
        for place in range(len(text)):
            for sign in (" ", "\n", "1", "x", "\u2212"):
                self.refused(text[:place] + sign + text[place + 1:], place)

    def test_blanks_and_line_ends(self):
        for blank in (" ", "\n", "\r", "\r\n", "\t", "\0", "\v", "\f", "\x85", "\xa0", "\u2028", "\ufeff"):
            for text in ("0", "+", "++", "-0+", "+" * 399):
                self.refused(blank + text, ascii(blank))
                self.refused(text + blank, ascii(blank))
            self.refused("+" + blank + "+", ascii(blank))

    def test_words_and_numbers(self):
        for text in ("1", "-1", "+1", "10", "1,0,-1", "[]", "[1]", "plus", "None", "+0.", "+0-0+e", "0x0", "+_0"):
            self.refused(text, text)

    def test_more_than_one_sign_beginning_with_0(self):
        for length in range(1, 6):
            for signs in itertools.product("+0-", repeat=length):
                self.refused("0" + "".join(signs), signs)
        for text in ("0" * 400, "0" + "+" * 399, "0" * 399 + "-", "0" * 399 + "+"):
            self.refused(text, len(text))

    def test_a_refusal_changes_nothing_told_later(self):
        for text, laying in (("0", []), ("++", [1, 1]), ("-0+", [1, 0, -1])):
            for wrong in ("", "00", "+x", None, 1, []):
                self.refused(wrong)
                self.assertEqual(read(text), laying)


if __name__ == "__main__":
    unittest.main()
