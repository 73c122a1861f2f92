"""6.4 to 6.6: texts without the backslashes that they do not need."""

import random
import unittest

from fairness import fair_trees
from plainmark.blocks import Reader
from plainmark.errors import NoSource
from plainmark.reading import read
from plainmark.trims import Trim, loosened
from plainmark.writing import trimmed, written
from shapes import PIECES, bullets, chance_texts, code, html, loose, loose_numbers, numbers, others, quote, text_para

BACKSLASH = "\\"


def word_by_word(text):
    """What 6.4 tells, and nothing else."""
    tree = read(text)
    place = text.find(BACKSLASH)
    while place >= 0:
        shorter = text[:place] + text[place + 1:]
        if read(shorter) == tree:
            text = shorter
            place = text.find(BACKSLASH)
        else:
            place = text.find(BACKSLASH, place + 1)
    return text


class Trimmed(unittest.TestCase):
    def told(self, text, wanted):
        self.assertEqual(trimmed(text), wanted, text)
        self.assertEqual(word_by_word(text), wanted, text)

    def same(self, *texts):
        for text in texts:
            self.told(text, text)

    def test_without_backslashes(self):
        self.same("", "a", "*a*\n", "a\n\n> b\n- c", "\n\n", "```\n", " \t")

    def test_single_ones_ahead_of_marks(self):
        self.told("a \\* b", "a * b")
        self.told("a \\*b\\* c", "a *b\\* c")
        self.told("\\*a\\*", "*a\\*")
        self.told("\\`a`", "\\`a`")
        self.told("\\`a\\`", "\\`a`")
        self.told("\\[a\\](b)", "[a\\](b)")
        self.told("\\<b\\>", "<b\\>")
        self.told("\\&amp\\;", "&amp\\;")
        self.told("a\\_b\\_c", "a_b_c")
        self.told("\\!\\(\\)\\,\\.\\:", "!(),.:")
        self.told("\\![a](b)", "\\![a](b)")

    def test_ahead_of_marks_of_blocks(self):
        self.same("\\# a", "\\- a", "\\> a", "\\```\n", "\\***", "\\<div>", "\\[a]: /u", "a\n\\===", "a\n\\# b", "1\\. a", "\\+ a\n\n\\- b")
        self.told("\\#a", "#a")
        self.told("a \\# b", "a # b")
        self.told("\\-a", "-a")
        self.told("a\n\\2. b", "a\n\\2. b")
        self.told("2\\. a", "2\\. a")
        self.told("a\n2\\. b", "a\n2. b")
        self.told("a\\\n===", "a\\\n===")
        self.told("a\n\\=b", "a\n=b")

    def test_ahead_of_letters(self):
        self.same("\\a", "a\\b\\1", "\\ a\\ ", "\\\ta", "a \\b *c*")

    def test_ahead_of_line_feeds(self):
        self.same("a\\\nb", "a \\\nb", "# a\\\n")
        self.told("a\\\\\nb", "a\\\\\nb")
        self.told("a\\\\\n", "a\\\n")
        self.told("a  \\\nb", "a  \\\nb")
        self.told("\\*\\\n\\*", "*\\\n*")
        self.told("a\\*\\\n\\*b", "a*\\\n*b")

    def test_at_the_end(self):
        self.same("\\", "a\\", "a\n\\", "# a\\")
        self.told("\\\\", "\\")
        self.told("a\\\\", "a\\")
        self.told("\\\\\\", "\\\\\\")
        self.told("\\\\\\\\", "\\\\\\")
        self.told("a\\*", "a*")

    def test_rows(self):
        self.told("\\\\a", "\\a")
        self.told("\\\\\\a", "\\\\\\a")
        self.told("\\\\\\\\a", "\\\\\\a")
        self.told("\\\\*a", "\\\\*a")
        self.told("\\\\\\*a", "\\\\*a")
        self.told("\\\\\\*a\\*", "\\\\*a\\*")
        self.told("\\\\\\*a*", "\\\\\\*a*")
        self.told("\\" * 8 + " a", "\\" * 7 + " a")
        self.told("\\" * 9 + "*", "\\" * 8 + "*")

    def test_where_they_mean_nothing(self):
        self.same("`\\*`", "    \\*\n", "```\n\\*\n```", "<div>\n\\*\n", "<b c='\\*'>", "<ab:\\*>")

    def test_in_targets_labels_and_infos(self):
        self.told("[a](\\*)", "[a](*)")
        self.told("[a](\\))", "[a](\\))")
        self.told("[a](\\a '\\b\\'')", "[a](\\a '\\b\\'')")
        self.told("[a](<\\<\\*>)", "[a](<\\<*>)")
        self.told("``` \\*\n", "``` *\n")
        self.told("``` \\a\\&amp;\n", "``` \\a\\&amp;\n")
        self.told("[a\\*]: /u\\*", "[a\\*]: /u*")
        self.told("[\\a]: /u\n[a]: /u\n\n[x][\\a]", "[\\a]: /u\n[a]: /u\n\n[x][a]")
        self.told("[a]: /u\n\n\\[a]", "[a]: /u\n\n\\[a]")
        self.told("\\[a]\n\n[b]: /u", "[a]\n\n[b]: /u")

    def test_those_that_are_tried_again(self):
        self.told("\\`a``\\`", "`a```")
        self.told("\\`\\`a\\`\\`", "\\``a``")
        self.told("- \\`a``\n  \\`\n\n\\*b\\*", "- \\`a``\n  `\n\n*b\\*")
        self.told("\\`a``\\`\n\n\\`a``\\`", "`a```\n\n`a```")

    def test_the_leftmost_first(self):
        self.told("\\*a\\*", "*a\\*")
        self.told("\\_a\\_ \\_b\\_", "_a\\_ _b\\_")
        self.told("\\[\\a](b)", "\\[\\a](b)")

    def test_the_example(self):
        self.told("\\a \\* \\- b", "\\a * - b")

    def test_texts_of_one_line_and_more(self):
        chance = random.Random(51)
        for pieces in (["\\", "\\", "\\", "a", "`", "*", "[", "]", "_", "<", ">", "!", "&", "\n", " ", "-", "#", "~", "1.", "(b)"],
                       ["\\", "\\", "\\", "\\", "a", "`", "\n", "*"], ["\\", "\\", "[a]", "[a]: /u\n", "[", "]", "(", "<", "`", "\n\n"],
                       ["\\", "\\", "\n", "\n\n", "```", "~~~", "<!--", "-->", "a", "- ", "  ", "> ", "#", "===", "---", "|", "    "]):
            for _ in range(1200):
                text = "".join(chance.choice(pieces) for _ in range(chance.randint(0, 18)))
                self.facts(text)

    def test_texts_of_several_lines(self):
        chance = random.Random(54)
        lines = ["", "", "- a", "- \\- b", "  \\# c", "  d\\*", "> \\> e", "> f \\_g_", "\\```", "```", "    \\a", "    b", "\\1. x", "1\\. y",
                 "* \\", "\\", "\\\\", "- \\", "  \\", "> \\", "\\===", "a\\", "<!-- \\-->", "\\<!--", "-->", "<div>\\", "[a\\]]: /u",
                 "[a\\]]", "\\[b]", "[b]: /v\\!", "  > \\- q", "- - \\+ r", "      \\", "# h \\#", "***\\"]
        for _ in range(1500):
            self.facts("\n".join(chance.choice(lines) for _ in range(chance.randint(1, 9))) + chance.choice(("", "\n")))

    def facts(self, text):
        told = trimmed(text)
        self.assertEqual(told, word_by_word(text), repr(text))
        self.assertEqual(read(told), read(text), repr(text))
        self.assertEqual(trimmed(told), told, repr(text))

    def test_other_texts(self):
        for text in chance_texts(52, 800):
            self.facts(text)

    def test_texts_that_are_written(self):
        for tree in fair_trees(53, 120, 2):
            self.facts(written(tree))

    def test_long_texts(self):
        many = "\\*a\\_b \\q\n\n"
        self.assertEqual(trimmed(many * 66), "*a_b \\q\n\n" * 66)
        self.assertEqual(trimmed("- \\*a\\* b\\_c\n" * 200), "- *a\\* b_c\n" * 200)
        self.assertEqual(trimmed("\\# a\n" * 200), "\\# a\n" * 200)
        self.assertEqual(trimmed("\\\\\n" * 200), "\\\\\n" * 199 + "\\\n")
        self.assertEqual(trimmed("\\" * 200), "\\" * 199)

    def test_what_is_no_string(self):
        for thing in others() + [(), ("a",), {}, {"a": "b"}, Reader(), NoSource(3)]:
            with self.assertRaises(NoSource) as caught:
                trimmed(thing)
            self.assertEqual(caught.exception.place, -1)

    def test_argument_by_name(self):
        self.assertEqual(trimmed(text="a \\* b"), "a * b")


class Compared(unittest.TestCase):
    """How two texts are compared of which one line is another one."""

    def told(self, text, other, line, *wanted):
        self.assertEqual(Trim(text).compare(other, line), wanted, (text, other))
        self.assertEqual(read(text) == read(other), wanted[1])

    def test_what_is_certain_soon(self):
        self.told("a\n\nb\n\nc\n", "a\n\nd\n\nc\n", 2, 4, False)
        self.told("a\n\nb\n\nc\n", "a\n\n b\n\nc\n", 2, 3, True)
        self.told("# a\n# b\n# c\n", "# a\n# d\n# c\n", 1, 2, False)
        self.told("# a\n# b\n# c\n", "# a\n# b #\n# c\n", 1, 2, True)
        self.told("- a\n- b\n- c\n", "- a\n- d\n- c\n", 1, 3, False)
        self.told("> ```\n> a\n> b\n", "> ```\n>a\n> b\n", 1, 2, True)
        self.told("> ```\n> a\n> b\n", "> ```\n>  a\n> b\n", 1, 2, False)
        self.told("a", "b", 0, 1, False)
        self.told("a", "", 0, 1, False)
        self.told("a\n\n", "\n\n", 0, 2, False)

    def test_lists_that_become_loose_later(self):
        tight = "- a\n- > b\n  >\n- c\n"
        self.told(tight, "- a\n- > b\n\n- c\n", 2, 4, False)
        self.told(tight + "- d\n", "- a\n- > b\n\n- c\n- d\n", 2, 5, False)
        self.told(tight + "\n- d\n", "- a\n- > b\n\n- c\n\n- d\n", 2, 6, True)
        self.told("> " + tight.replace("\n", "\n> ") + "\n> - d", "> - a\n> - > b\n>\n> - c\n>\n> - d", 2, 6, True)

    def test_blank_lines_that_may_come_to_count(self):
        self.told("    a\n      \n# b\n", "    a\n\n# b\n", 1, 3, True)
        self.told("    a\n      \n    b\n", "    a\n\n    b\n", 1, 3, False)
        self.told("    a\n    \n    b\n", "    a\n\n    b\n", 1, 2, True)

    def test_over_many_texts(self):
        chance = random.Random(55)
        for text in chance_texts(56, 2500):
            lines = text.split("\n")
            line = chance.randint(0, len(lines) - 1)
            other = lines[:line] + ["".join(chance.choice(PIECES) for _ in range(3)).replace("\n", "")] + lines[line + 1:]
            if line < len(text.rstrip("\n").split("\n")) - 1:
                other = "\n".join(other)
                self.assertEqual(Trim(text).compare(other, line)[1], self.same(text, other), (text, other))

    def same(self, text, other):
        return read(text) == read(other)

    def test_loosened(self):
        a, b = text_para("a"), text_para("b")
        tree = (a, bullets((a, quote(numbers(7, (b,), ()), a)), ()), loose((b,), (bullets((a,)),)), quote(), code("a\n"), html("<b>\n"))
        self.assertEqual(loosened(tree), (a, loose((a, quote(loose_numbers(7, (b,), ()), a)), ()), loose((b,), (loose((a,)),)), quote(),
                                          code("a\n"), html("<b>\n")))


if __name__ == "__main__":
    unittest.main()
