"""3.1 to 3.3: which objects are trees."""

import itertools
import unittest

from plainmark.blocks import Reader
from plainmark.errors import NoDefinitions, NoEdit, NoLabel, NoSource, NoText, NoTree, PlainmarkError
from plainmark.reading import read
from plainmark.trees import is_tree
from shapes import BREAK, HARD, SOFT, bullets, c, code, definition, em, h, html, image, link, numbers, others, para, quote, raw, strong, t
from shapes import chance_texts, text_para

ALLOWED = "\t\n" + "".join(chr(number) for number in range(32, 127) if number != 37)
BARRED = ["%", "\r", "\x0b", "\x0c", "\x00", "\x1f", "\x7f", "\x80", "\xa0", "\xe9", "\u2028", "\U0001f600", "\ud800"]
OBJECTS = others() + [PlainmarkError(), NoSource(1), NoDefinitions(), NoLabel(), NoTree(), NoText(), NoEdit(1), Reader(), Reader, NoTree]
EVERY_BLOCK = (
    quote(para(t("a"))), bullets((text_para("a"),), ()), numbers(7, (text_para("b"),), sign=")"), h(3, (t("a"), em(t("b")))), BREAK,
    code("a\n", None), code("a\n\n", "b"), html("<b>\n"), definition("a", "/u", "t"),
    para(t("a"), SOFT, c("b"), HARD, raw("<c>"), em(t("d")), strong(t("e")), link("f", t("g"), title="h"), image("i", t("j"), title=None)),
)


def shown(thing):
    try:
        return repr(thing)[:300]
    except (ValueError, RecursionError):
        return "a very long or a very deep one"


class Trees(unittest.TestCase):
    def yes(self, *things):
        for thing in things:
            self.assertIs(is_tree(thing), True, shown(thing))

    def no(self, *things):
        for thing in things:
            self.assertIs(is_tree(thing), False, shown(thing))

    def blocks(self, *blocks):
        """Each block makes a tree, alone, behind another one, in a quote and in an item."""
        for block in blocks:
            self.yes((block,), (BREAK, block), (quote(block),), (bullets((), (block,)),))

    def no_blocks(self, *blocks):
        for block in blocks:
            self.no((block,), (BREAK, block), (quote(block),), (bullets((), (block,)),))

    def inlines(self, *inlines):
        for one in inlines:
            self.blocks(para(one), h(1, (one,)), para(em(one)), para(link("", SOFT, one)) if one[0] != "link" else para(image("", one)))

    def no_inlines(self, *inlines):
        for one in inlines:
            self.no_blocks(para(one), h(1, (one,)), para(em(one)), para(strong(one)), para(link("", one)), para(image("", one)))

    def test_documents(self):
        self.yes((), EVERY_BLOCK, EVERY_BLOCK + EVERY_BLOCK)
        self.no([], [BREAK], ([],), "", "break", BREAK, ("break", "break"), ((),), (("break",), ()), {}, {BREAK: 1})
        self.assertIs(is_tree(thing=()), True)

    def test_other_objects(self):
        for thing in OBJECTS + ["", "a", [], ["a"], {}, {"a": 1}]:
            self.no(thing, (thing,), ((thing,),), (BREAK, thing), ((thing, ()),), (quote(thing),))

    def test_words(self):
        for word in ("", "Quote", "quotes", "item", "text", "soft", "hard", "emph", "link", "fence", "indented", "break ", b"break", None, 1):
            for rest in ((), ((),), ("a",), ("a", None), (1, ()), ("-", None, True, ((),)), ("a", "b", None)):
                self.no(((word,) + rest,))

    def test_quotes(self):
        self.blocks(quote(), quote(BREAK), quote(quote(), BREAK), quote(*EVERY_BLOCK))
        self.no_blocks(("quote",), ("quote", (), ()), ("quote", []), ("quote", None), ("quote", "a"), ("quote", BREAK), ("quote", ((),)))

    def test_lists(self):
        for sign in "-+*":
            self.blocks(("list", sign, None, True, ((),)), ("list", sign, None, False, ((), (BREAK,), EVERY_BLOCK)))
            for start in (0, 1, 7, -1, True, False, "", "1", 1.0, ()):
                self.no_blocks(("list", sign, start, True, ((),)))
        for sign in ".)":
            for start in (0, 1, 2, 10, 999999999):
                self.blocks(("list", sign, start, True, ((),)), ("list", sign, start, False, ((BREAK,),)))
            for start in (None, -1, 1000000000, 10 ** 5000, True, False, 1.0, "1", (1,), b"1"):
                self.no_blocks(("list", sign, start, True, ((),)))
        for sign in ("", "--", "x", "1.", "_", "=", None, 1, b"-", ("-",), ["-"], {}):
            self.no_blocks(("list", sign, None, True, ((),)), ("list", sign, 1, True, ((),)))
        for tight in (None, 0, 1, "", "True", (), 1.0):
            self.no_blocks(("list", "-", None, tight, ((),)))
        for items in ((), [], [()], None, "a", ([],), (BREAK,), ((BREAK,), None), (((),),), (("break",),), ((), "a"), {}):
            self.no_blocks(("list", "-", None, True, items))
        self.no_blocks(("list", "-", None, True), ("list", "-", None, True, ((),), ()), ("list",), ("list", "-", None, ((),)))

    def test_headings(self):
        for level in range(1, 7):
            self.blocks(h(level, ()), h(level, (t("a"), SOFT)))
        for level in (0, 7, -1, True, False, None, "1", 1.0, 10 ** 5000, (1,)):
            self.no_blocks(h(level, ()), h(level, (t("a"),)))
        for row in (None, [], [t("a")], "a", t("a"), (BREAK,), ((),), ("a",)):
            self.no_blocks(h(1, row))
        self.no_blocks(("heading",), ("heading", 1), ("heading", 1, (), ()))

    def test_breaks(self):
        self.blocks(BREAK)
        self.no_blocks(("break", ()), ("break", None), ("break", "a"))

    def test_codes(self):
        for text in ("a\n", "\n", "\n\n", "a\n\n b\n", " \n", ALLOWED + "\n"):
            self.blocks(code(text, None), code(text, ""), code(text, "a b"), code(text, ALLOWED))
        self.blocks(code("", ""), code("", "a"))
        self.no_blocks(code("", None))
        for text in ("a", "a\nb", " ", None, b"a\n", 1, ("a\n",), ["a\n"], True):
            self.no_blocks(code(text, None), code(text, ""), code(text, "a"))
        for info in (1, True, False, b"a", (), ("a",), [], {}, 0):
            self.no_blocks(code("a\n", info), code("", info))
        for sign in BARRED:
            self.no_blocks(code(sign + "\n", None), code("a" + sign + "b\n", "x"), code("a\n", sign), code("", "a" + sign))
        self.no_blocks(("code",), ("code", "a\n"), ("code", "a\n", None, None))

    def test_html(self):
        self.blocks(html("a\n"), html("\n"), html("a\n\nb\n"), html(ALLOWED + "\n"))
        for text in ("", "a", "a\nb", None, b"a\n", 1, ("a\n",), True):
            self.no_blocks(html(text))
        for sign in BARRED:
            self.no_blocks(html(sign + "\n"), html("a\n" + sign + "\n"))
        self.no_blocks(("html",), ("html", "a\n", None))

    def test_definitions(self):
        for label in ("a", "a b", "\\]", "\\[x\\]", "\\\\", "*", "\"", "1", "a" * 999, "&amp;", "\\a"):
            self.blocks(definition(label), definition(label, ""), definition(label, ALLOWED, ""), definition(label, "b", ALLOWED))
        for label in ("", " ", "A", "aB", " a", "a ", "a  b", "a\tb", "a\nb", "[", "]", "a]", "[a]", "\\\\]", "a" * 1000, None, 1, True, b"a",
                      ("a",), ["a"], {}):
            self.no_blocks(definition(label))
        for destination in (None, 1, True, b"a", ("a",), [], {}):
            self.no_blocks(definition("a", destination))
            if destination is not None:
                self.no_blocks(definition("a", "b", destination))
        for sign in BARRED:
            self.no_blocks(definition(sign), definition("a" + sign), definition("a", sign), definition("a", "b", sign))
        self.no_blocks(("definition",), ("definition", "a"), ("definition", "a", "b"), ("definition", "a", "b", None, None))

    def test_paragraphs(self):
        self.blocks(para(t("a")), para(SOFT), para(t("a"), SOFT, t("b")))
        self.no_blocks(para(), ("paragraph",), ("paragraph", None), ("paragraph", "a"), ("paragraph", [t("a")]), ("paragraph", t("a")),
                       ("paragraph", (t("a"),), ()), para(BREAK), para(()), para("a"), para([t("a")]))

    def test_texts_codes_and_html(self):
        for word in ("text", "code", "html"):
            self.inlines((word, "a"), (word, " "), (word, "\n"), (word, ALLOWED))
            self.no_inlines((word, ""), (word,), (word, "a", None), (word, None), (word, 1), (word, b"a"), (word, True), (word, ("a",)),
                            (word, ["a"]))
            for sign in BARRED:
                self.no_inlines((word, sign), (word, "a" + sign + "b"))

    def test_breaks_in_rows(self):
        self.inlines(SOFT, HARD)
        self.no_inlines(("soft", ""), ("hard", ""), ("soft", ()), ("hard", None))
        self.blocks(para(SOFT, SOFT, HARD))

    def test_other_things_in_rows(self):
        self.no_inlines((), "a", None, ["text", "a"], BREAK, quote(), ("paragraph", (t("a"),)), ("Text", "a"), ("", "a"), (b"text", "a"),
                        (None,), (1, "a"), ("text ", "a"), ("bold", (t("a"),)), *[thing for thing in OBJECTS])

    def test_emph_and_strong(self):
        for word in ("emph", "strong"):
            self.inlines((word, (t("a"),)), (word, (SOFT,)), (word, (em(strong(t("a"))), t("b"))))
            self.no_inlines((word,), (word, ()), (word, (t("a"),), ()), (word, "a"), (word, [t("a")]), (word, None), (word, t("a")),
                            (word, ((),)), (word, (BREAK,)), (word, (t(""),)))

    def test_links_and_images(self):
        for word in ("link", "image"):
            for row in ((), (t("a"),), (em(t("a")), c("b"))):
                self.blocks(para((word, "", None, row)), para((word, ALLOWED, "", row)), para((word, "a", ALLOWED, row)))
            self.no_inlines((word,), (word, "a"), (word, "a", None), (word, "a", None, (), ()), (word, "a", None, None), (word, "a", None, []),
                            (word, "a", None, "b"), (word, "a", None, t("b")), (word, "a", None, (BREAK,)), (word, None, None, ()),
                            (word, 1, None, ()), (word, b"a", None, ()), (word, "a", 1, ()), (word, "a", b"t", ()), (word, "a", False, ()),
                            (word, "a", ("t",), ()), (word, "a", None, (t(""),)), (word, "a", None, (t("b"), t("c"))))
            for sign in BARRED:
                self.no_inlines((word, sign, None, ()), (word, "a", sign, ()), (word, "a", None, (t(sign),)))

    def test_texts_side_by_side(self):
        for row in ((t("a"), t("b")), (SOFT, t("a"), t("b")), (t("a"), SOFT, t("b"), t("c"))):
            self.no_blocks(("paragraph", row), h(1, row), para(em(*row)), para(strong(SOFT, em(*row))), para(link("", *row)),
                           para(image("", *row)))
        self.blocks(para(t("a"), c("b"), t("c"), raw("d"), t("e"), SOFT, t("f"), em(t("g")), t("h")), para(c("a"), c("b"), raw("c"), raw("d")))

    def test_links_in_links(self):
        inner = link("u", t("a"))
        self.no_blocks(para(link("", inner)), para(link("", t("a"), em(inner))), para(link("", strong(em(inner)))), h(2, (link("", inner),)),
                       para(em(link("", em(inner)))), para(image("", link("", inner))), para(link("", image("", link("", inner)))),
                       para(link("", link(""))))
        self.blocks(para(inner, inner), para(em(inner), inner), para(image("", inner)), para(link("", image("", inner))),
                    para(link("", em(image("", em(inner))))), para(link("", image("", link("", image("", inner))))), h(1, (inner, inner)))

    def test_each_part_spoilt(self):
        self.yes(EVERY_BLOCK)
        many = 0
        for spoilt in self.spoilt(EVERY_BLOCK):
            many += 1
            self.no(spoilt)
        self.assertGreater(many, 200)

    def spoilt(self, thing):
        """A tuple with one thing in it, at any depth, exchanged for what is nothing of the sort."""
        for index, part in enumerate(thing):
            worse = [1.5, b"a", ["a"], {}, Ellipsis]
            if isinstance(part, tuple):
                worse += [list(part), None, "a", True]
            if isinstance(part, int) and not isinstance(part, bool):
                worse += [True, -1, 10 ** 9, None, str(part)]
            if isinstance(part, str):
                worse += [True, part + "%", (part,)]
            for one in worse:
                if not (part is None and one is None) and not (isinstance(part, bool) and one is True):
                    yield thing[:index] + (one,) + thing[index + 1:]
            if isinstance(part, tuple):
                for one in self.spoilt(part):
                    yield thing[:index] + (one,) + thing[index + 1:]

    def test_parts_too_few_and_too_many(self):
        for block in EVERY_BLOCK:
            self.no((block[:-1],), (block + (None,),), (block + ((),),), (block[:1] + block,))
        for inline in EVERY_BLOCK[-1][1]:
            self.no((para(inline[:-1]),), (para(inline + (None,)),), (para(inline + ((),)),), (para(inline[:1] + inline),))

    def test_subclasses_of_integers_are_no_levels(self):
        self.no((h(True, ()),), (("list", ".", True, True, ((),)),), (("list", ".", False, True, ((),)),))

    def test_rows_within_one_another(self):
        for empty in (True, False):
            for make in (quote, lambda *row: bullets(row), lambda *row: numbers(0, (), row)):
                blocks = () if empty else (BREAK,)
                for depth in range(1, 110):
                    self.assertIs(is_tree(blocks), depth <= 100, depth)
                    blocks = (make(*blocks),)

    def test_rows_of_inlines_within_one_another(self):
        for make in (em, strong, lambda *row: image("", *row)):
            for most, wrap in ((99, para), (99, lambda one: h(1, (one,))), (98, lambda one: quote(para(one))),
                               (97, lambda one: bullets((quote(para(one)),)))):
                row = t("a")
                for depth in range(1, 110):
                    self.assertIs(is_tree((wrap(row),)), depth <= most, depth)
                    row = make(row)
        row = image("")
        for depth in range(1, 110):
            self.assertIs(is_tree((para(row),)), depth <= 98, depth)
            row = em(row)

    def test_very_deep_things(self):
        blocks = row = ()
        for _ in range(20000):
            blocks, row = (quote(*blocks),), (em(*row),)
        self.no(blocks, (para(*row),), (bullets(blocks),))
        many = ()
        for _ in range(50000):
            many = (many,)
        self.no(many, (many,), (quote(many),))

    def test_wide_trees(self):
        self.yes((BREAK,) * 50000, (para(*[SOFT] * 50000),), (bullets(*[()] * 50000),))
        self.no((BREAK,) * 50000 + ((),))

    def test_what_read_tells(self):
        for text in itertools.chain(chance_texts(21, 2000), ["[\\ ]: /u", "a\n" * 200, "- " * 40 + "a"]):
            self.yes(read(text))


if __name__ == "__main__":
    unittest.main()
