import itertools
import re
import unittest

from plainmark.errors import NoLabel, PlainmarkError
from plainmark.links import normalised

PUNCTUATION = "!\"#$&'()*+,-./:;<=>?@[\\]^_`{|}~"
# 4.10 for one text, without its length: no brackets but behind a backslash, and
# no backslash at the end that is not itself behind one.
WORDS = re.compile(r"(?:\\[!-/:-@\[-`{-~]|\\(?!\Z)|[^\\\[\]])*+")


class NotEqual:
    """An object of a class of somebody else."""


class Normalised(unittest.TestCase):
    def none(self, *things):
        for thing in things:
            with self.subTest(kind=type(thing).__name__), self.assertRaises(NoLabel):
                normalised(thing)

    def same(self, *texts):
        for text in texts:
            self.assertEqual(normalised(text), text)

    def test_letters_become_small(self):
        self.assertEqual(normalised("ABCDEFGHIJKLMNOPQRSTUVWXYZ"), "abcdefghijklmnopqrstuvwxyz")
        self.same("abcdefghijklmnopqrstuvwxyz", "0123456789")
        self.assertEqual(normalised("aBc De"), "abc de")

    def test_white_at_both_ends(self):
        for white in (" ", "\t", "\n", "  ", " \t\n ", "\n\n"):
            self.assertEqual(normalised(white + "a"), "a")
            self.assertEqual(normalised("a" + white), "a")
            self.assertEqual(normalised(white + "A b" + white), "a b")

    def test_white_in_the_middle(self):
        for white in (" ", "\t", "\n", "  ", "\t\t", "\n\n", " \t\n ", "\n \n \n"):
            self.assertEqual(normalised("a" + white + "b"), "a b")
            self.assertEqual(normalised("a" + white + "b" + white + "C"), "a b c")

    def test_each_other_sign_stays(self):
        for sign in PUNCTUATION:
            if sign not in "[\\]":
                self.same(sign, "a" + sign, sign + "a", "a" + sign + "b", sign + sign)

    def test_nothing_is_decoded(self):
        for sign in PUNCTUATION:
            self.same("\\" + sign, "a\\" + sign + "b")
        self.same("&amp;", "&#65;", "\\&amp;", "&lsqb;", "&rsqb;", "\\a", "\\\\a", "\\ a", "\\ \\ a")
        self.assertEqual(normalised("&AMP; &#X41;"), "&amp; &#x41;")
        self.assertEqual(normalised("\\A\\\nB"), "\\a\\ b")

    def test_brackets(self):
        self.none("[", "]", "[]", "[a]", "a[", "a]", "a[b", "a]b", "[a", "]a", "\\[a]", "[a\\]", "\\[a[", "\\]]",
                  "\\][", "a\n]", "a\t[")
        self.same("\\[", "\\]", "\\[a\\]", "a\\[b", "a\\]b", "\\[\\]", "\\]\\[", "\\[\\[\\[")

    def test_brackets_behind_rows_of_backslashes(self):
        for sign in "[]":
            for many in range(9):
                text = "a" + "\\" * many + sign + "b"
                if many % 2 == 1:
                    self.same(text)
                else:
                    self.none(text)
            self.none("\\a" + sign, "\\ " + sign + "a", "\\\n" + sign + "a")

    def test_backslashes_at_the_end(self):
        for many in range(1, 9):
            for ahead in ("a", "a ", "*", "\\a", "\\ ", "\\]", "\\["):
                if many % 2 == 0:
                    self.same(ahead + "\\" * many)
                else:
                    self.none(ahead + "\\" * many)
        for many in (2, 4, 6):
            self.same("\\" * many)
            self.none("\\" * (many - 1))

    def test_a_backslash_with_white_behind_it(self):
        for white in (" ", "\t", "\n", " \n"):
            self.assertEqual(normalised("\\" + white), "\\")
            self.assertEqual(normalised("a\\" + white), "a\\")
            self.assertEqual(normalised("\\\\\\" + white), "\\\\\\")

    def test_from_1_to_999_characters(self):
        for many in (1, 2, 3, 100, 500, 997, 998, 999):
            self.same("a" * many, "*" * many, "\\*" * (many // 2) + "a" * (many % 2))
        self.none("", "a" * 1000, "a" * 1001, "*" * 1000, "a" * 5000, "\\*" * 500, "a " * 500)

    def test_white_counts_as_characters(self):
        self.assertEqual(normalised(" " * 998 + "A"), "a")
        self.assertEqual(normalised("A" + " " * 998), "a")
        self.assertEqual(normalised("A" + "\n" * 997 + "B"), "a b")
        self.none(" " * 999 + "A", "A" + " " * 999, "A" + "\n" * 998 + "B")
        self.assertEqual(normalised("\\]" * 499 + "A"), "\\]" * 499 + "a")
        self.none("\\]" * 499 + "AB")

    def test_white_alone(self):
        self.none(" ", "\t", "\n", "  ", " \t\n ", "\n\n", " " * 998, " " * 999, "\t\n" * 400)

    def test_what_is_no_string(self):
        self.none(None, True, False, 0, 1, -1, 10 ** 5000, 1.5, float("nan"), 1j, b"", b"a", b"[a]", [], ["a"], (),
                  ("a",), {}, {"a": "b"}, set(), {"a"}, frozenset(), range(3), bytearray(b"a"), memoryview(b"a"),
                  slice(1), len, str, object(), Ellipsis, NotImplemented, NoLabel(), NoLabel, NotEqual(), iter("a"))

    def test_the_error(self):
        self.assertTrue(issubclass(NoLabel, PlainmarkError))
        with self.assertRaises(ValueError):
            normalised("]")

    def test_argument_by_name(self):
        self.assertEqual(normalised(text="A"), "a")
        with self.assertRaises(NoLabel):
            normalised(text=None)

    def test_it_is_done_to_what_is_normalised(self):
        for text in ("A  B\nC", " \\] ", "&AMP;\t&lt;", "a\\\\", "\\a\\b"):
            self.assertEqual(normalised(normalised(text)), normalised(text))

    def test_all_short_texts(self):
        for many in range(6):
            for signs in itertools.product("\\[]aB \n*", repeat=many):
                text = "".join(signs)
                if WORDS.fullmatch(text) and re.search("[^ \n]", text):
                    self.assertEqual(normalised(text), re.sub("[ \n]+", " ", text.strip(" \n")).lower(), text)
                else:
                    self.assertRaises(NoLabel, normalised, text)


if __name__ == "__main__":
    unittest.main()
