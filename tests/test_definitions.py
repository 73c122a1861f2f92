"""One definition at a place of a text."""

import itertools
import re
import unittest

from plainmark.definitions import definition_at

AHEAD = ("", "a", "a\n", "[a]: /u\n", "[", "\\", "[b", "] ", "a b\n\n")
BEHIND = ("", "x", "\n", "[b]: /v\n", " x\ny", "===")

GAPS = ("", " ", "\t", "\n", "  ", " \t ", " \n", "\n ", "\t\n  ", "  \n\t")
NO_GAPS = ("\n\n", " \n\n", "\n \n", "\n\n ", "\n\t\n", "\n\n\n")

# 2.9 in the words of regular expressions.
ESCAPED = r"\\[!-/:-@\[-`{-~]"
GAP = r"(?:[ \t]*+(?:\n[ \t]*+)?)"
LABEL = rf"\[(?=[^\]]*[^\] \t\n])((?:{ESCAPED}|[^\[\]])++)\]"
DESTINATION = rf"(<(?:{ESCAPED}|[^<>\n])*+>|(?!<)(?:{ESCAPED}|[^ \t\n()])++(?=[ \t\n]|\Z))"
TITLE = rf"""("(?:{ESCAPED}|[^"])*+"|'(?:{ESCAPED}|[^'])*+'|\((?:{ESCAPED}|[^()])*+\))"""
END = r"[ \t]*+(?:\n|\Z)"
DEFINITION = re.compile(rf"{LABEL}:{GAP}{DESTINATION}(?:(?=[ \t\n]){GAP}{TITLE}{END}|{END})")


def wanted_at(text, place):
    found = DEFINITION.match(text, place)
    if not found:
        return None
    label, target, title = found.groups()
    target = target[1:-1] if target.startswith("<") else target
    label = re.sub("[ \t\n]+", " ", label.strip(" \t\n")).lower()
    return (found.end(), label, decode(target), title and decode(title[1:-1]))


def decode(text):
    return re.sub(r"\\([!-/:-@\[-`{-~])", r"\1", text)


class Definitions(unittest.TestCase):
    def stands(self, text, label, destination, title=None):
        """It stands behind other signs, and, if its line ends, ahead of other lines."""
        for ahead in AHEAD:
            for behind in BEHIND if text.endswith("\n") else ("",):
                told = (len(ahead + text), label, destination, title)
                self.assertEqual(definition_at(ahead + text + behind, len(ahead)), told, (ahead, text, behind))

    def ended(self, text, label, destination, title=None):
        """It stands with each end of a line behind it."""
        for end in ("", " ", "\t", "  \t", "\n", " \n", "\t \n"):
            self.stands(text + end, label, destination, title)

    def without_title(self, text, behind):
        """Of both texts together the first one alone is a definition of a without a title."""
        for ahead in AHEAD:
            found = definition_at(ahead + text + behind, len(ahead))
            self.assertEqual(found, (len(ahead + text), "a", "/u", None), (ahead, text, behind))

    def none(self, *texts):
        for text in texts:
            for ahead in AHEAD:
                self.assertIsNone(definition_at(ahead + text, len(ahead)), (ahead, text))

    def test_whole_ones(self):
        self.ended("[a]: /u", "a", "/u")
        self.ended("[a]: <v>", "a", "v")
        self.ended("[a]: /u 't'", "a", "/u", "t")
        self.ended('[a]: /u "t"', "a", "/u", "t")
        self.ended("[a]: /u (t)", "a", "/u", "t")
        self.ended("[a]: <> ''", "a", "", "")
        self.ended("[A  b\nC]: /u 't'", "a b c", "/u", "t")
        self.ended("[a\\]b]:<b c>\n'd\ne'", "a\\]b", "b c", "d\ne")
        self.ended("[&Amp;]: &amp; '&amp;'", "&amp;", "&", "&")
        self.ended("[*]: \\* '\\*'", "*", "*", "*")

    def test_pieces_left_out_put_in_twice_or_exchanged(self):
        pieces = ("[", "a", "]", ":", " ", "/u", " ", "'", "t", "'")
        others = ("[", "]", ":", "a", " ", "\n", "/u", "'", '"', "(", ")", "<", "\\", "[a]", "\n\n", ";")
        rows = [pieces[:at] + pieces[at + 1:] for at in range(10)]
        rows += [pieces[:at] + pieces[at:at + 1] + pieces[at:] for at in range(10)]
        rows += [pieces[:at] + (other,) + pieces[at + 1:] for at in range(10) for other in others]
        rows += [pieces[:at] + (other,) + pieces[at:] for at in range(11) for other in others]
        rows += [row[:at] for row in rows for at in range(len(row))]
        for row in rows:
            for behind in ("", "\n", "\nx\n"):
                text = "".join(row) + behind
                self.assertEqual(definition_at(text, 0), wanted_at(text, 0), text)

    def test_pieces_left_out(self):
        self.none("a]: /u 't'", "[]: /u 't'", "[a: /u 't'", "[a] /u 't'", "[a]", "[a]:", "[a]: ", "[a]:\n", "", "[",
                  "[a] : /u", "[a]\n: /u", "(a): /u", "[a]= /u", "[a];/u", "![a] /u", "a", ":", "[a]: 't u'",
                  "[a]: /u t", "[a]:\n\n/u", "[ ]: /u", "[\n]: /u", "[[]: /u", "[]]: /u", "[a[]: /u", "[a]b]: /u",
                  "[a][b]: /u", "[a\\]: /u", "[[a]]: /u")
        self.ended("[a]: 't'", "a", "'t'")
        self.ended("[a]: /u't'", "a", "/u't'")
        self.ended("[a]:/u", "a", "/u")

    def test_pieces_twice(self):
        self.none("[[a]: /u", "[a]]: /u", "[a]:: /u", "[a]: /u /u", "[a]: /u 't' 't'", "[a]: /u 't''t'", "[a]: <b> <c>",
                  "[a]: /u ''t'", "[a]: /u 't''")
        self.ended("[a]::", "a", ":")
        self.ended("[a]:::/u", "a", "::/u")

    def test_gap_ahead_of_the_destination(self):
        for gap in GAPS:
            self.ended("[a]:" + gap + "/u", "a", "/u")
            self.ended("[a]:" + gap + "<u v>", "a", "u v")
            self.ended("[a]:" + gap + "/u 't'", "a", "/u", "t")
            self.none("[a]" + gap + " :/u", "[a]:" + gap, "[a]:" + gap + "<u", "[a]:" + gap + ")")
        for gap in NO_GAPS:
            self.none("[a]:" + gap + "/u", "[a]:" + gap + "<u>", "[a]:" + gap + "/u 't'")

    def test_gap_ahead_of_the_title(self):
        for gap in GAPS[1:]:
            for target in ("/u", "</u>"):
                self.ended("[a]: " + target + gap + "'t'", "a", "/u", "t")
                self.ended("[a]: " + target + gap + '"t"', "a", "/u", "t")
                self.ended("[a]: " + target + gap + "(t)", "a", "/u", "t")
                self.ended("[a]: " + target + gap + "''", "a", "/u", "")
        for title in ("'t'", '"t"', "(t)", "''"):
            self.none("[a]: </u>" + title, "[a]: <>" + title)
        self.ended("[a]: /u(t)", "a", "/u(t)")
        self.ended("[a]: /u\"t\"", "a", "/u\"t\"")

    def test_two_line_feeds_ahead_of_the_title(self):
        for gap in NO_GAPS:
            first, behind = gap.split("\n", 1)
            self.without_title("[a]: /u" + first + "\n", behind + "'t'")
            self.without_title("[a]: </u>" + first + "\n", behind + "'t'\n")

    def test_both_gaps(self):
        for one, other in itertools.product(GAPS, GAPS[1:]):
            self.stands("[a]:" + one + "/u" + other + "'t'\n", "a", "/u", "t")

    def test_titles_over_lines(self):
        for opening, closing in ('""', "''", "()"):
            for title in ("t\nu", "\nt", "t\n", "\n", "\n\n", "t\n\nu", "t\n  u\n v", "[b]: /v\n"):
                self.ended("[a]: /u " + opening + title + closing, "a", "/u", title)
                self.ended("[a]: /u\n" + opening + title + closing, "a", "/u", title)

    def test_other_signs_behind_a_title_in_the_line_of_the_destination(self):
        for title in ("'t'", '"t"', "(t)", "''", "'t\nu'", "'t\n\nu'"):
            for behind in ("x", " x", "\tx", "'", " 't'", " 't'\n", "(t)", "[", ":", "\\", "x\n", " x\ny"):
                self.none("[a]: /u " + title + behind, "[a]: </u>\t" + title + behind, "[a]:\n/u " + title + behind)

    def test_other_signs_behind_a_title_in_the_next_line(self):
        for title in ("'t'", '"t"', "(t)", "''", "'t\nu'", "'t\n\nu'"):
            for behind in ("x", " x", "\tx", "'", " 't'", "(t)", "[", ":", "\\", "x\n", " x\ny"):
                self.without_title("[a]: /u\n", title + behind)
                self.without_title("[a]: </u> \t\n", title + behind)
                self.without_title("[a]:\n  /u\n", "\t" + title + behind)

    def test_titles_that_do_not_end(self):
        for title in ("'t", "'", '"t', '"', "(t", "(", "(t(", "'t\n", "'t\\'"):
            self.none("[a]: /u " + title, "[a]: </u> " + title, "[a]: /u\t" + title)
            self.without_title("[a]: /u\n", title)
            self.without_title("[a]: /u  \n", "  " + title)

    def test_other_signs_behind_the_destination(self):
        for behind in (" x", "\tx", " x\n", " [b]: /v", "  :", " <b>", " /v 't'", " \\", " &", " )", " t'", " \\'t'",
                       " x 't'", " #"):
            self.none("[a]: /u" + behind, "[a]: </u>" + behind, "[a]:\n/u" + behind)
        self.none("[a]: <b>c", "[a]: <b><c>", "[a]: <b>:", "[a]: <>c", "[a]: <b>\\")

    def test_lines_behind(self):
        for behind in ("x", "[b]: /v", "\n't'", "\n", "   x", "===", "t'", "\\'t'", ":", "- 't'", "\t", "`t`", " "):
            self.without_title("[a]: /u\n", behind)
            self.without_title("[a]: </u> \n", behind)
            self.without_title("[a]:\n/u\t \n", behind)
            for title in ("'t'", '"t"', "(t)"):
                text = "[a]: /u\n" + title + "\n"
                self.assertEqual(definition_at(text + behind, 0), (len(text), "a", "/u", "t"))

    def test_white_behind_the_line_does_not_belong_to_it(self):
        self.assertEqual(definition_at("[a]: /u\n  ", 0), (8, "a", "/u", None))
        self.assertEqual(definition_at("[a]: /u\n\n", 0), (8, "a", "/u", None))
        self.assertEqual(definition_at("[a]: /u 't'\n  \n", 0), (12, "a", "/u", "t"))
        self.assertEqual(definition_at("[a]: /u 't'  \n\n", 0), (14, "a", "/u", "t"))

    def test_places(self):
        text = "[a]: /u 't'\n[b]: /v\nx"
        for place in range(len(text) + 1):
            wanted = {0: (12, "a", "/u", "t"), 12: (20, "b", "/v", None)}.get(place)
            self.assertEqual(definition_at(text, place), wanted)
        self.assertIsNone(definition_at("", 0))
        self.assertIsNone(definition_at("[a]: /u", 7))

    def test_white_ahead_does_not_belong_to_it(self):
        self.none(" [a]: /u", "\n[a]: /u", "\t[a]: /u", "   [a]: /u")

    def test_labels(self):
        self.ended("[ A ]: /u", "a", "/u")
        self.ended("[\nA\t b\n\n]: /u", "a b", "/u")
        self.ended("[\\[\\]]: /u", "\\[\\]", "/u")
        self.ended("[\\\\]: /u", "\\\\", "/u")
        self.ended("[\\ ]: /u", "\\", "/u")
        self.ended("[a\\ b]: /u", "a\\ b", "/u")
        self.ended("[!]: /u", "!", "/u")
        self.ended("[^a]: /u", "^a", "/u")
        self.ended("[']: /u", "'", "/u")
        self.ended("[<b]: /u", "<b", "/u")
        self.none("[]: /u", "[ ]: /u", "[\t\n]: /u", "[\\]: /u", "[\\\\\\]: /u", "[a[b]: /u", "[a]b]: /u",
                  "[\\\\[]: /u", "[\\\\]]: /u", "[\\a]]: /u", "[a\\\\\\]: /u")

    def test_long_labels(self):
        for many in (1, 2, 998, 999):
            self.stands("[" + "a" * many + "]: /u", "a" * many, "/u")
            self.stands("[" + "\\]" * (many // 2) + "a" * (many % 2) + "]: /u", "\\]" * (many // 2) + "a" * (many % 2), "/u")
        self.stands("[" + " " * 998 + "A]: /u", "a", "/u")
        self.none("[" + "a" * 1000 + "]: /u", "[" + "\\]" * 500 + "]: /u", "[" + " " * 999 + "a]: /u",
                  "[" + "a" * 1001 + "]: /u", "[" + " " * 500 + "]: /u")

    def test_arguments_by_name(self):
        self.assertEqual(definition_at(place=1, text="x[a]: /u"), (8, "a", "/u", None))
        self.assertEqual(definition_at("x[a]: /u", place=1), (8, "a", "/u", None))

    def test_kinds_of_what_is_returned(self):
        told = definition_at("[a]: /u 't'", 0)
        self.assertEqual([type(told)] + [type(one) for one in told], [tuple, int, str, str, str])
        self.assertEqual(type(definition_at("[a]: /u", 0)), tuple)

    def test_short_texts_against_a_regular_expression(self):
        for begin in ("[a]:", "[a]: b", "[a]: <b>", "[a]: b 't", "[a]: b\n't'", "[a]:\nb\n(", "["):
            for signs in itertools.product(" \n'(>a:]\\", repeat=5):
                text = begin + "".join(signs)
                self.assertEqual(definition_at(text, 0), wanted_at(text, 0), text)


if __name__ == "__main__":
    unittest.main()
