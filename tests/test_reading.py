"""1.5 and Part 7: the tree of a text, and what always holds of it."""

import random
import unittest

from plainmark.blocks import Reader, outline
from plainmark.definitions import definitions
from plainmark.errors import NoSource
from plainmark.inlines import inlines
from plainmark.reading import read
from shapes import BREAK, HARD, PIECES, SOFT, bullets, c, chance_texts, code, definition, em, h, image, link, others
from shapes import para, quote, strong, t, text_para

PUNCTUATION = "!\"#$&'()*+,-./:;<=>?@[\\]^_`{|}~"


def lines_with(text, first, others_ahead):
    """A text with something ahead of its first line, and something ahead of the others."""
    lines = text.split("\n")
    if lines[-1] == "":
        lines.pop()
    return "".join((others_ahead if number else first) + line + "\n" for number, line in enumerate(lines))


def all_blocks(blocks):
    for block in blocks:
        yield block
        if block[0] == "quote":
            yield from all_blocks(block[1])
        if block[0] == "list":
            for item in block[4]:
                yield from all_blocks(item)


def has_definition(blocks):
    return any(block[0] == "definition" for block in all_blocks(blocks))


def is_closed(blocks):
    return len(blocks) > 0 and blocks[-1][0] in ("paragraph", "heading", "break", "quote")


class Trees(unittest.TestCase):
    def told(self, text, *blocks):
        self.assertEqual(read(text), blocks, text)

    def test_each_block(self):
        self.told("")
        self.told("*a*\nb", para(em(t("a")), SOFT, t("b")))
        self.told("# a `b`", h(1, (t("a "), c("b"))))
        self.told("#", h(1, ()))
        self.told("a  \n**b**\n---", h(2, (t("a"), HARD, strong(t("b")))))
        self.told("***", BREAK)
        self.told("    *a*", code("*a*\n"))
        self.told("```*b*\n*a*\n```", code("*a*\n", "*b*"))
        self.told("<div>*a*", ("html", "<div>*a*\n"))
        self.told("> *a*\n> > `b`", quote(para(em(t("a"))), quote(para(c("b")))))
        self.told("- *a*\n- `b`\n  # c", bullets((para(em(t("a"))),), (para(c("b")), h(1, (t("c"),)))))

    def test_definitions(self):
        self.told("[a]\n\n[a]: /u 't'", para(link("/u", t("a"), title="t")), definition("a", "/u", "t"))
        self.told("[a]: /u\n\n[A] ![x][ a ]", definition("a"), para(link("/u", t("A")), t(" "), image("/u", t("x"))))
        self.told("[a]: /u\n[a]: /v\n\n[a]", definition("a"), definition("a", "/v"), para(link("/u", t("a"))))
        self.told("# [a]\n\n> - [a]: /u", h(1, (link("/u", t("a")),)), quote(bullets((definition("a"),))))
        self.told("> [a]: /u\n\n- [a]\n\n[a]: /v", quote(definition("a")), bullets((para(link("/u", t("a"))),)), definition("a", "/v"))
        self.told("[a]\n===\n[a]: /u", h(1, (link("/u", t("a")),)), definition("a"))
        self.told("[a]: /u\n[a]", definition("a"), para(link("/u", t("a"))))
        self.told("[a]\n[a]: /u", para(t("[a]"), SOFT, t("[a]: /u")))
        self.told("```\n[a]: /u\n```\n[a]", code("[a]: /u\n", ""), text_para("[a]"))

    def test_a_label_with_a_backslash_at_its_end(self):
        self.told("[\\ ]: /u\n\n[\\ ] [x][\\ ]", definition("\\"), para(link("/u", t("\\ ")), t(" "), link("/u", t("x"))))

    def test_it_is_the_outline_with_inlines(self):
        for text in chance_texts(1, 2500):
            known = {label: target for label, target in definitions(outline(text)).items() if not label.endswith("\\")}
            self.assertEqual(read(text), self.filled(outline(text), known), text)
            self.assertEqual(list(definitions(read(text)).items()), list(definitions(outline(text)).items()))

    def filled(self, blocks, known):
        made = []
        for block in blocks:
            if block[0] in ("paragraph", "heading"):
                block = block[:-1] + (inlines(block[-1], known),)
            if block[0] == "quote":
                block = ("quote", self.filled(block[1], known))
            if block[0] == "list":
                block = block[:4] + (tuple(self.filled(item, known) for item in block[4]),)
            made.append(block)
        return tuple(made)

    def test_what_is_no_string(self):
        for thing in others() + [(), ("a",), {}, {"a": "b"}, Reader(), NoSource(3)]:
            with self.assertRaises(NoSource) as caught:
                read(thing)
            self.assertEqual(caught.exception.place, -1)

    def test_argument_by_name(self):
        self.assertEqual(read(text="a"), (text_para("a"),))

    def test_deep_and_long_texts(self):
        for text in (">" * 40 + "*" * 80 + "a" + "*" * 80, "- " * 40 + "a\n", ("> " * 40 + "a\n") * 200, ("- " * 40 + "a\n") * 200,
                     ("a " * 100 + "\n") * 200, ("[a]: /u\n") * 200, "".join("  " * min(number, 39) + "- a\n" for number in range(200)),
                     ("*a **b `c` [d](e) " * 11 + "\n") * 200):
            self.assertIs(type(read(text)), tuple)


class Quotes(unittest.TestCase):
    def test_a_text_in_a_quote(self):
        for text in chance_texts(2, 3000):
            if text:
                self.assertEqual(read(lines_with(text, "> ", "> ")), (quote(*read(text)),), text)

    def test_with_tabs_there_is_a_result(self):
        for text in chance_texts(3, 500, PIECES + ("\t", "\t")):
            self.assertIs(type(read(lines_with(text, "> ", "> "))), tuple)
        self.assertNotEqual(read("> \ta"), (quote(*read("\ta")),))


class Items(unittest.TestCase):
    def test_a_text_in_an_item(self):
        many = 0
        for text in chance_texts(4, 4000):
            first = text.split("\n")[0]
            indent = len(first) - len(first.lstrip(" "))
            if first.strip() and (indent == 0 or indent >= 4):
                many += 1
                tree = read(lines_with(text, "+ ", "  "))
                self.assertEqual([tree[0][:3], tree[0][4], tree[1:]], [("list", "+", None), (read(text),), ()], text)
        self.assertGreater(many, 1500)

    def test_other_signs_and_blanks(self):
        self.assertNotEqual(read("- - -"), (bullets(read("- -")),))
        self.assertNotEqual(read("* * *"), (bullets(read("* *"), sign="*"),))
        self.assertNotEqual(read("+  a\n  - b"), (bullets(read(" a\n- b"), sign="+"),))
        for text in chance_texts(5, 500, PIECES + ("\t", "\t")):
            for sign in "-*+":
                self.assertIs(type(read(lines_with(text, sign + " ", "  "))), tuple)


class OneBehindTheOther(unittest.TestCase):
    def test_two_texts(self):
        many = 0
        texts = [text for text in chance_texts(6, 3000, most=10) if not has_definition(read(text))]
        for text, behind in zip(texts, texts[1:]):
            if is_closed(read(text)):
                many += 1
                self.assertEqual(read(text + "\n\n" + behind), read(text) + read(behind), (text, behind))
                if text.endswith("\n"):
                    self.assertEqual(read(text + "\n" + behind), read(text) + read(behind), (text, behind))
        self.assertGreater(many, 800)

    def test_behind_others_they_need_not_be(self):
        self.assertNotEqual(read("- a\n\n- b"), read("- a") + read("- b"))
        self.assertNotEqual(read("    a\n\n    b"), read("    a") + read("    b"))
        self.assertNotEqual(read("<!--\n\nb"), read("<!--") + read("b"))
        self.assertNotEqual(read("```\n\nb"), read("```") + read("b"))
        texts = list(chance_texts(16, 300, PIECES + ("\t", "\t"), 10))
        for text, behind in zip(texts, texts[1:]):
            self.assertIs(type(read(text + "\n\n" + behind)), tuple)


class BlankLinesAndBlanks(unittest.TestCase):
    def test_a_blank_line_ahead(self):
        for text in chance_texts(7, 1500, PIECES + ("\t",)):
            for blank in ("\n", "   \n", "\t\n", "\n \n"):
                self.assertEqual(read(blank + text), read(text), text)

    def test_blanks_ahead_of_one_line(self):
        for text in chance_texts(8, 3000, tuple(piece for piece in PIECES if "\n" not in piece), 8):
            if not text.startswith(" ") and [block[0] for block in read(text)] != ["html"]:
                for blanks in (" ", "  ", "   "):
                    self.assertEqual(read(blanks + text), read(text), text)

    def test_blanks_ahead_of_lines_of_a_paragraph(self):
        chance = random.Random(9)
        many = 0
        for text in chance_texts(10, 6000, ("a", "b", "\n", "*", " ", "`", "[", "](u)", "- ", "\\", "&amp;", "1. ", "===", "#", "<b>")):
            lines = text.split("\n")
            if lines[0].strip() and [block[0] for block in read(text)] == ["paragraph"]:
                more = [lines[0]] + [" " * chance.randint(0, 9) + line for line in lines[1:]]
                many += len(lines) > 2
                self.assertEqual(read("\n".join(more)), read(text), text)
        self.assertGreater(many, 100)


class PlainWords(unittest.TestCase):
    def test_words(self):
        chance = random.Random(11)
        for _ in range(1500):
            lines = []
            for _ in range(chance.randint(0, 6)):
                words = "".join(chance.choice("abXY  ") for _ in range(chance.randint(0, 8))).strip(" ")
                lines.append(" " * chance.randint(0, 3) + words + " " * chance.randint(0, 1) if words else " " * chance.randint(0, 1))
            wanted, row = [], []
            for line in lines + [""]:
                if line.strip(" "):
                    row += [t(line.strip(" ")), SOFT]
                elif row:
                    wanted.append(para(*row[:-1]))
                    row = []
            text = "".join(line + "\n" for line in lines)
            self.assertEqual(read(text), tuple(wanted), text)
            self.assertEqual(read(text[:-1]), tuple(wanted), text)


class Escapes(unittest.TestCase):
    def test_strings(self):
        chance = random.Random(12)
        for number in range(3000):
            signs = PUNCTUATION if number % 2 else PUNCTUATION + "ab1 " * 5
            words = "".join(chance.choice(signs) for _ in range(chance.randint(1, 12))).strip(" ")
            if words:
                written = "".join("\\" + sign if sign in PUNCTUATION else sign for sign in words)
                self.assertEqual(read(written), (text_para(words),), words)
                self.assertEqual(read(written + "\n"), (text_para(words),), words)


class Fences(unittest.TestCase):
    def test_strings(self):
        for number, words in enumerate(chance_texts(13, 1500, PIECES + ("\t", "````"))):
            longest = max([len(row) for row in "".join(sign if sign == "`" else " " for sign in words).split()] or [0])
            fence = "`" * max(3, longest + 1)
            lines = words.split("\n")
            text = "".join(line + "\n" for line in lines)
            self.assertEqual(read(fence + "\n" + text + fence + "`" * (number % 3)), (code(text, ""),), words)


class Definitions(unittest.TestCase):
    def test_a_definition_more(self):
        many = 0
        for text in chance_texts(14, 6000):
            tree = read(text)
            labels = list(definitions(tree))
            if is_closed(tree) and labels:
                many += 1
                more = read(text + "\n\n[" + labels[-1] + "]: /other 'x'")
                self.assertEqual(more, tree + (definition(labels[-1], "/other", "x"),), text)
        self.assertGreater(many, 100)

    def test_behind_others_it_need_not_be(self):
        self.assertNotEqual(read("[a]: /u\n\n```\n\n[a]: /v"), read("[a]: /u\n\n```") + (definition("a", "/v"),))
        for text in chance_texts(15, 300, PIECES + ("\t", "\t")):
            self.assertIs(type(read(text + "\n\n[a]: /other")), tuple)


if __name__ == "__main__":
    unittest.main()
