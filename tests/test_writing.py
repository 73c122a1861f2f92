"""6.1 to 6.3, 6.5: trees written back to texts."""

import copy
import itertools
import unittest

from fairness import fair_trees, is_fair, is_indented, trees, unfair
from plainmark.blocks import Reader
from plainmark.errors import NoText, NoTree
from plainmark.reading import read
from plainmark.trees import is_tree
from plainmark.writing import written
from shapes import BREAK, HARD, SOFT, bullets, c, chance_texts, code, definition, em, h, html, image, link, loose, loose_numbers, numbers
from shapes import others, para, quote, raw, strong, t, text_para

A, B = text_para("a"), text_para("b")
LONG = h(1, (t("a"), SOFT, t("b")))
PUNCTUATION = "!\"#$&'()*+,-./:;<=>?@[\\]^_`{|}~"


def around(tree):
    """Documents in which a row stands: alone, in a quote, and in an item of a loose list."""
    return [tree, (quote(*tree),), (loose(tree, tree, sign="+"),), (quote(loose(tree, (), sign="+")), A), (loose((A, quote(*tree))),)]


class Written(unittest.TestCase):
    def back(self, tree):
        """The tree is written, and read again."""
        text = written(tree)
        self.assertIs(type(text), str)
        self.assertEqual(read(text), tree, text)

    def fair(self, *rows):
        for row in rows:
            for tree in around(row):
                self.assertEqual(unfair(tree), [], tree)
                self.back(tree)

    def fair_tight(self, *rows):
        """Rows that are fair in items of tight lists, too."""
        self.fair(*rows)
        for row in rows:
            for tree in ((bullets(row, (B,)),), (numbers(7, (), row, sign=")"),), (quote(bullets((bullets(row, sign="+"), BREAK))),)):
                self.assertEqual(unfair(tree), [], tree)
                self.back(tree)

    def unfair(self, number, *rows):
        """Rows of which a condition does not hold: what is written of them, if anything, is right."""
        for row in rows:
            for tree in around(row):
                self.assertIn(number, unfair(tree), tree)
                self.right(tree)

    def unfair_tight(self, *rows):
        for row in rows:
            for tree in ((bullets(row, (B,)),), (quote(bullets((numbers(7, row),))),)):
                self.assertIn(4, unfair(tree), tree)
                self.right(tree)

    def right(self, tree):
        try:
            text = written(tree)
        except NoText:
            return
        self.assertEqual(read(text), tree, text)

    def none(self, *things):
        for tree in things:
            self.assertRaises(NoText, written, tree)


class Blocks(Written):
    def test_nothing(self):
        self.assertEqual(written(()), "")
        self.back((quote(),))
        self.back((quote(quote(), quote()),))
        self.back((bullets(()),))
        self.back((loose((), (), ()),))

    def test_each_block(self):
        self.fair_tight((A,), (h(1, ()),), (h(6, (t("#"),)),), (BREAK,), (code("", ""),), (code("a\n", None),), (html("<b>\n"),),
                        (definition("a", "", ""),), (quote(),), (quote(A, quote(B)),), (bullets((A,), (B,)),), (loose((A,), ()),),
                        (numbers(0, (A,)),), (numbers(999999999, (A,), (B,), (A,), sign=")"),))

    def test_codes(self):
        for text in ("a\n", "\ta\n", " a\n", "a\n\nb\n", "a\n \n\t\nb  \n", "# a\n- b\n> c\n```\n~~~\n", "[a]: /u\n", "\\*&amp;\n", "     a\n"):
            self.fair((code(text, None),), (A, code(text, None)), (code(text, None), A))
        for text in ("", "\n", "\n\n", "a\n", " a\n\n\tb\n\n", "~~~\n", "~~~~~~\n```\n", "  ~~~~\na\n", "```\n", "~~~ a\n" * 3):
            for info in ("", "a", "a b", " a ", "\ta\n", "`~`", "~~~", "\\", "&amp;", "&#97;", "\\*", "\n", " ", "'\"<", "#"):
                self.fair_tight((code(text, info),), (A, code(text, info)))

    def test_html(self):
        for text in ("<b>\n", "</b>\n", "<b>\n*a*\n  b\n", "<div\n", "<p>\n- a\n> b\n", "<!-- a\n\n  b\n \t\n-->\n", "<?a?> b\n", "<!a\n>\n",
                     "<![CDATA[\n\n]]>\n", "<pre>\n\n# a</style>x\n", "<div>\t\n", "<script></script>\n"):
            self.fair((html(text),), (html(text), A), (A, html(text), html(text)), (html(text), code("a\n", None)), (html(text), bullets((A,))))

    def test_definitions(self):
        for label in ("a", "a b", "\\]", "\\[\\]", "\\\\", "*a*", "`", "a" * 999, "1.", "&amp;", "a\\b", "!", "#", "- a"):
            self.fair_tight((definition(label),), (definition(label, "", None), definition(label, "<\\>\n\t ", " 'a\"\n\n")))
        for words in ("", " ", "a b", "()", "(", "\\", "&amp;", "\n", "\t", "'", '"', "<a>", "`*`", "a\\"):
            self.fair_tight((definition("a", words, words),), (definition("a", words),))

    def test_quotes_and_lists(self):
        for many in (1, 2, 10, 40, 97):
            for make in (quote, lambda *row: bullets(row, sign="+"), lambda *row: numbers(3, (), row), lambda *row: loose((), row)):
                row = (A,)
                for _ in range(many):
                    row = (make(*row),)
                self.assertTrue(is_fair(row))
                self.back(row)

    def test_long_trees(self):
        self.back((A,) * 500)
        self.back((bullets(*[(A,), (B,)] * 100),))
        self.back((text_para("a " * 500 + "a"),))
        self.back((para(*[one for _ in range(300) for one in (t("a"), SOFT)], t("b")),))

    def test_it_need_not_be_a_tuple_of_fair_ones(self):
        for tree in ((bullets((A,)), bullets((B,))), (code("a\n", None), code("b\n", None)), (loose((A,)),), (loose(()),), (code("\n", None),),
                     (code("a\n\n", None),), (code("\na\n", None),), (h(3, (t("a"), SOFT, t("b"))),), (html("a\n"),), (html("<b>\n\n"),),
                     (html(" \n"),), (html("<!--\n"), A), (para(SOFT),), (para(t("a"), SOFT),), (para(t("a"), SOFT, SOFT, t("b")),), (para(raw("a")),),
                     (para(t("a"), raw("<b")),), (para(t("a"), raw("<a\n\nb>")),), (para(c("a\nb")),), (para(link("", image("", link("")))),)):
            self.none(tree, (quote(*tree),), (loose(tree, ()),) if tree != (html("<!--\n"), A) else tree)
        self.none((bullets((A, code("b\n", None))),), (bullets((A, B)),), (bullets((quote(), quote())),))


class Conditions(Written):
    def test_1_lists_of_one_sign(self):
        self.fair((bullets((A,)), bullets((A,), sign="+"), bullets((A,), sign="*"), numbers(1, (A,)), numbers(1, (A,), sign=")"), bullets((A,))))
        self.fair((bullets((A,)), A, bullets((A,))), (bullets(()), BREAK, bullets(())), (bullets((A,)), definition("a"), bullets((A,))))
        self.unfair(1, (bullets((A,)), bullets((A,))), (numbers(1, (A,)), numbers(2, (A,))), (bullets(()), loose((), ())))

    def test_1_codes(self):
        one = code("a\n", None)
        self.fair((one, A, one), (one, code("", ""), one), (one, BREAK, one), (one, html("<b>\n"), one), (one, definition("a"), one))
        self.fair((code("a\n\n \n\t\nb\n", None),), (code("\ta\n", None),))
        self.unfair(1, (one, one), (code("\n", None),), (code(" \t\n", None),), (code("a\n\n", None),), (code("\na\n", None),))

    def test_1_codes_behind_lists(self):
        one = code("a\n", None)
        for item in ((A,), (A, one), (BREAK, one), (bullets((A,), sign="+"),), (quote(one),), (h(1, ()),), (definition("a"),)):
            self.fair((loose((A,), item), one), (numbers(999999999, (one,), (), item[:1]), one), (loose((one,), item), one, A))
        self.fair((loose((), (A,)), code("a\n \n\n  b\n", None)), (bullets((html("<b>\n"),)), one), (bullets((code("", ""),)), one))
        self.unfair(1, (bullets((A,), ()), one), (bullets(()), one), (bullets((A,), (one,)), one), (loose((one, A)), one),
                    (bullets((A,)), code(" a\n", None)), (bullets((A,)), code("\ta\n", None)))

    def test_2_long_headings(self):
        for row in ((t("a"), SOFT, t("b")), (t("a"), HARD, t("b")), (t("a"), raw("<b\nc>"), t("d")), (em(t("a"), SOFT, t("b")),),
                    (link("", t("a"), image("", t("b"), HARD, t("c"))),), (t("=" * 3), SOFT, t("---"), SOFT, t("# a"))):
            for level in (1, 2):
                self.fair((h(level, row),), (A, h(level, row), A), (definition("a"), h(level, row)), (h(level, row), code("a\n", None)))
            for level in (3, 4, 5, 6):
                self.unfair(2, (h(level, row),))
                self.none((h(level, row),))
        for level in range(1, 7):
            self.fair_tight((h(level, (t("a"), raw("<b>"), link("a\nb", t("c\n"), title="\n"))),))

    def test_3_loose_lists(self):
        self.fair((loose((A,), (A,)),), (loose((), ()),), (loose((A, A)),), (loose((definition("a"), BREAK)),), (loose((bullets(()), A)),),
                  (loose_numbers(0, (quote(), quote())),), (bullets((A,)),), (bullets(()),))
        self.unfair(3, (loose((A,)),), (loose(()),), (loose((loose((A,), ()),)),), (loose_numbers(1, (quote(A, A),)),))

    def test_4_what_may_stand_behind_what_is_not_open(self):
        closed = [h(1, (t("a"),)), BREAK, code("a\n", ""), code("a\n", None), html("<!-- -->\n"), html("<pre>\n\n</pre>\n"), quote(), quote(BREAK),
                  LONG, quote(A, BREAK), bullets(()), bullets((A,), ()), bullets((BREAK,)), bullets((quote(),)), quote(html("<div>\n")),
                  bullets((html("<b>\n"),))]
        behind = [A, LONG, h(2, ()), BREAK, code("b\n", ""), code("b\n", None), html("<b>\n"), html("<div>\n"), html("<?x?>\n"), quote(), quote(A),
                  definition("a"), bullets((), sign="+"), bullets((A,), sign="+"), numbers(7, (A,)), numbers(1, ())]
        for ahead, block in itertools.product(closed, behind):
            if is_indented(block) and (ahead[0] == "list" or is_indented(ahead)) or ahead[0] == block[0] == "quote":
                continue
            self.fair_tight((ahead, block))

    def test_4_what_may_stand_behind_what_is_open(self):
        opened = [A, definition("a"), quote(A), bullets((A,)), bullets((), (BREAK, definition("a"))), quote(bullets((BREAK, quote(definition("a")),))),
                  loose((A,), (A,))]
        behind = [h(1, ()), h(6, (t("a"),)), BREAK, code("b\n", ""), code("", "a"), quote(A), quote(), html("<div>\n"), html("<!-- -->\n"),
                  html("<?x?>\n"), html("<!a>\n"), html("<![CDATA[]]>\n"), html("<pre></pre>\n"), bullets((A,), sign="+"), numbers(1, (BREAK,)),
                  bullets((bullets(()),), sign="+"), bullets((code("a\n", None),), sign="*"), numbers(1, (quote(),), sign=")")]
        for ahead, block in itertools.product(opened, behind):
            if not ahead[0] == block[0] == "quote":
                self.fair_tight((ahead, block))
                if block != html("<div>\n"):
                    self.fair_tight((ahead, block, BREAK))
        self.fair_tight((definition("a"), definition("b")), (definition("a"), definition("b", "", "t"), A), (definition("a"), text_para("'t'")),
                        (definition("a"), LONG), (definition("a"), text_para("(t)"), BREAK), (definition("a"), h(3, ()), A))

    def test_4_what_may_not(self):
        self.unfair_tight((A, B), (A, LONG), (A, code("a\n", None)), (A, html("<b>\n")), (A, definition("a")), (A, bullets(())),
                          (A, numbers(2, (A,))), (A, numbers(1, ())), (quote(A), A), (quote(A), quote()), (quote(), quote(A)),
                          (bullets((A,)), A), (bullets((BREAK,)), code("a\n", None)), (html("<b>\n"), A), (html("<div>\n"), BREAK),
                          (definition("a"), html("<b>\n")), (definition("a"), bullets(())), (bullets((definition("a"),)), definition("b")))
        self.none((bullets((A, B)),), (bullets((html("<div>\n"), A)),), (bullets((quote(A), quote(A))),), (bullets((A, LONG)),))
        for row in ((A, B), (quote(), quote()), (html("<b>\n"), A), (A, code("a\n", None)), (A, numbers(2, ()))):
            self.back((loose(row),))
            self.back((bullets((quote(*row),)),))

    def test_5_three_lists(self):
        for sign in "-*":
            other = {"-": "*", "*": "-"}[sign]
            self.unfair(5, (bullets((bullets((bullets((), sign=sign),), sign=sign),), sign=sign),),
                        (bullets((A,), (bullets((bullets((), (A,), sign=sign),), (A,), sign=sign), BREAK), sign=sign),),
                        (bullets((bullets((bullets((bullets((), sign=sign),), sign=sign),), sign=sign),), sign=sign),))
            self.none((bullets((bullets((bullets((), sign=sign),), sign=sign),), sign=sign),))
            self.fair((bullets((bullets((), sign=sign),), sign=sign),), (bullets((bullets((bullets((A,), sign=sign),), sign=sign),), sign=sign),),
                      (bullets((bullets((bullets((), sign=other),), sign=sign),), sign=sign),),
                      (bullets((bullets((BREAK, bullets((), sign=sign)), sign=sign),), sign=sign),),
                      (bullets((bullets((bullets((h(1, ()),), (), sign=sign),), sign=sign),), sign=sign),),
                      (bullets((quote(bullets((bullets((), sign=sign),), sign=sign)),), sign=sign),))
        for sign in "+":
            self.fair((bullets((bullets((bullets((bullets((), sign=sign),), sign=sign),), sign=sign),), sign=sign),))
        self.fair((numbers(1, (numbers(1, (numbers(1, ()),)),)),))

    def test_6_html(self):
        for text in (" <b>\n", "\n", "a\n", "<b> a\n", "<div>\n\n", "<!--\n", "<pre>\n", "<b>\n\na\n", "<!-- -->\na\n", "\t<b>\n", "<?\n", "<b>\n \n"):
            self.unfair(6, (html(text),), (A, html(text)))

    def test_7_breaks(self):
        for one in (SOFT, HARD):
            self.fair_tight((para(t("a"), one, t("b")),), (para(em(t("a"), one, t("b"))),), (para(link("", t("a"), one, c("b"))),),
                            (para(t("a "), one, t(" b")),), (para(t("a\\"), one, t("\tb\n"), one, t("1. x")),))
            self.unfair(7, (para(one),), (para(one, t("a")),), (para(t("a"), one),), (h(1, (one,)),), (para(em(t("a"), one)),), (para(link("", one)),),
                        (para(image("", one, t("a"))),), (para(t("a"), one, SOFT, t("b")),), (para(t("a"), one, HARD, t("b")),))

    def test_7_html_at_the_begin(self):
        self.fair_tight((para(t("a"), raw("<b>")),), (para(em(t("a"), raw("<b>"), t("c"))),), (para(link("", raw("<b>"))),), (para(image("", raw("<b>"))),),
                        (para(t("a"), SOFT, raw("<div>"), SOFT, raw("<b>")),))
        self.unfair(7, (para(raw("<b>")),), (para(raw("<b>"), t("a")),), (h(1, (raw("<b>"),)),))

    def test_8_emph_and_strong(self):
        for make, other in itertools.product((em, strong), repeat=2):
            self.fair_tight((para(make(t("a"))),), (para(t("a"), make(t("a")), t("a")),), (para(t("1"), make(t("1")), t("1")),),
                            (para(make(t("a")), other(t("b"))),), (para(make(t("a")), other(t("b")), make(t("c")), other(t("d"))),),
                            (para(make(t("ab"), other(t("c")), t("de"))),), (para(make(t("a"), SOFT, other(t("b")), SOFT, t("c"))),),
                            (para(make(t("a "), other(t("b")), t(" c"))),), (para(make(t("a*"), other(t("b*_a")), t("_c"))),),
                            (para(make(t("ab"), other(t("c")), t("x"), other(t("d")), t("fg"))),), (para(t("*"), make(t("a")), t("_")),),
                            (para(c("a"), make(t("a")), c("a")),), (para(t(" "), make(t("a")), raw("<b>"), make(t("b"))),),
                            (para(link("", make(t("a"))), make(t("b")), image("", make(t("c")))),), (para(make(t("a"), link("", other(t("b"))), t("c"))),),
                            (para(make(t("ab"), other(t("cd"), make(t("e")), t("fg")), t("hi"))),), (para(make(t("a\"(.b"))),))
            self.unfair(8, (para(make(t("."))),), (para(make(t("(a"))),), (para(make(t("a)"))),), (para(make(t(" a"))),), (para(make(t("a\n"))),),
                        (para(make(other(t("a")))),), (para(make(c("a"))),), (para(make(t("a"), c("b"))),), (para(make(link("", t("a")))),),
                        (para(make(t("a"), other(t("b")), t("cd"))),), (para(make(t("ab"), other(t("c")), t("d"))),), (para(make(SOFT, t("a"))),))

    def test_8_codes(self):
        for text in ("a", " ", "  ", " a", "a ", " a ", "`", "``", "` `", "`a", "a`", "a`b", "a``b`", "`a`", " ` ", "```", "\t", "\\", "&amp;", "<b>", "*",
                     "`" * 10, " `", "` ``  ```"):
            self.fair_tight((para(c(text)),), (para(t("`"), c(text), t("`")),), (para(em(t("a"), c(text), t("b"))),), (h(2, (c(text),)),),
                            (para(link("`", c(text), title="`")),), (para(c(text), SOFT, c(text), raw("<b c='`'>"), c(text)),))
        self.unfair(8, (para(c("a\nb")),), (para(c("a"), c("b")),), (para(c("\n")),), (h(1, (t("a"), c("b"), c("c"))),))

    def test_9_html_among_inlines(self):
        for text in ("<b>", "</b>", "<b c='d' e=\"f\">", "<b/>", "<!-- * -->", "<!-->", "<?a?>", "<!A b>", "<![CDATA[`]]>", "<b\nc>", "<!-- a  \nb -->",
                     "<b c='`*[]_\\'>", "<b c=d\ne>"):
            self.fair_tight((para(t("a"), raw(text), t("b")),), (para(t("<"), raw(text), raw(text)),), (para(link("", t("a"), raw(text)), raw(text)),),
                            (para(t("a"), SOFT, raw(text), HARD, em(t("b"), raw(text), t("c"))),))
        for text in ("a", "<", "<b", "b>", "<b>c", "<b><c>", "< b>", "<b\n\nc>", "<b\n c>", "<ab:c>", "&amp;", "<!--\n- b -->", "\n", "<a@b>"):
            self.unfair(9, (para(t("a"), raw(text), t("b")),), (para(t("a"), raw(text)),))

    def test_10_links_in_links(self):
        self.fair_tight((para(link("", t("a")), link("", t("b"))),), (para(image("", link("", t("a")))),), (para(link("", image("", t("a")))),),
                        (para(image("", image("", link("", image("", t("a"))))),),), (para(link("")),), (para(image("")),))
        self.unfair(10, (para(link("", image("", link("", t("a"))))),), (para(link("", em(t("a"), image("", link("")), t("b")))),))


class Texts(Written):
    def test_each_sign(self):
        for sign in "\t\n" + "".join(chr(number) for number in range(32, 127) if number != 37):
            for words in (sign, sign * 2, sign * 3, "a" + sign, sign + "a", "a" + sign + "b", sign + " a", " " + sign):
                self.fair_tight((para(t(words)),), (h(1, (t(words),)),), (para(link(words, t(words), title=words)),),
                                (para(em(t("a" + words + "b")), t(words), strong(t("a"))),))

    def test_texts_that_look_like_marks(self):
        for words in ("# a", "- a", "+", "1. a", "1)", "> a", "```", "~~~", "***", "---", "===", "    a", "<b>", "<!--", "[a]: /u", "[a](b)", "![a]",
                      "*a*", "__a__", "`a`", "&amp;", "&#97;", "\\", "\\\\", "\\*", "<ab:c>", "a\\", "a  ", "  a", "a\n", "\n", "_a_", "=", "|a|",
                      "^a^", "10. a", "a\n\nb", "[a]", "!", "![", "]("):
            self.fair_tight((text_para(words),), (para(t("a"), SOFT, t(words)),), (h(2, (t(words),)),), (h(1, (t(words), SOFT, t(words))),),
                            (para(t(words), em(t("a")), t(words)),), (definition("a"), text_para(words)), (para(link("u", t(words))),))

    def test_links_and_images(self):
        for destination in ("", "/u", "a b", " a ", "<>", "()", "(", ")", "\\", "a\\", "\n", "\t", "&amp;", "'", '"', "`", "*", "]", "[", "a\nb"):
            for title in (None, "", "t", "a b", " ", "'", '"', "()", "\\", "\n", "\n\n", "a\n\nb", "\t", "&lt;", "`", "*"):
                self.back((para(link(destination, t("a"), title=title), image(destination, title=title)),))

    def test_very_deep_inlines(self):
        for many in (1, 2, 10, 80, 97):
            row = (t("a"),)
            pieces = (t("a"),)
            for _ in range(many):
                row = (image("u", *row, title=""),)
                pieces = (em(t("bb"), *pieces, t("bb")),) if pieces[0][0] != "text" else (em(*pieces),)
            self.back((para(*row),))
            self.back((para(*pieces),))


class Errors(Written):
    def test_what_is_no_tree(self):
        for thing in others() + ["", "a", [], [BREAK], {}, ((),), ("break",), (("html", "<b>"),), (para(),), (h(7, ()),), Reader(), NoTree(), NoText(),
                                 (para(t("a"), t("b")),), (para(link("", link(""))),), (code("a", ""),), (A, None)]:
            self.assertRaises(NoTree, written, thing)
        deep = ()
        for _ in range(100):
            deep = (quote(*deep),)
        self.assertRaises(NoTree, written, deep)
        self.back(deep[0][1])

    def test_argument_by_name(self):
        self.assertEqual(read(written(tree=(A,))), (A,))

    def test_the_argument_stays(self):
        for tree in fair_trees(41, 50) + trees(42, 50):
            kept = copy.deepcopy(tree)
            self.right(tree)
            self.assertEqual(tree, kept)


class Facts(Written):
    def test_fair_trees(self):
        for tree in fair_trees(43, 900) + fair_trees(44, 150, 6):
            self.back(tree)

    def test_other_trees(self):
        for tree in trees(45, 1500):
            if is_tree(tree):
                self.right(tree)

    def test_trees_of_texts(self):
        many = 0
        for text in chance_texts(46, 2500):
            tree = read(text)
            self.right(tree)
            if is_fair(tree):
                many += 1
                self.back(tree)
        self.assertGreater(many, 1000)

    def test_fair_trees_make_fair_trees(self):
        for tree in fair_trees(47, 300):
            for more in ((quote(*tree),), (loose(tree, tree, sign="+"),)):
                self.assertTrue(is_fair(more))
                self.back(more)

    def test_examples(self):
        tree = read("&#97;*\"b\"*")
        self.assertEqual(tree, (para(t("a"), em(t("\"b\""))),))
        self.assertEqual(unfair(tree), [8])
        self.right(tree)
        self.none((bullets((A,)), bullets((A,))))
        self.back(read("*a* **b**"))


if __name__ == "__main__":
    unittest.main()
