"""2.2, 2.3, 2.7: quotes, lists and items, who goes on and what begins."""

import unittest

from plainmark.blocks import outline
from shapes import BREAK, bullets, code, definition, h, html, loose, loose_numbers, numbers, p, quote


class Told(unittest.TestCase):
    def told(self, text, *blocks):
        self.assertEqual(outline(text), blocks, text)

    def same(self, text, *others):
        for other in others:
            self.assertEqual(outline(other), outline(text), other)


class Quotes(Told):
    def test_ordinary_quotes(self):
        self.told("> a", quote(p("a")))
        self.told("> a\n> b\n", quote(p("a\nb")))
        self.told("> a\n>\n> b\n", quote(p("a"), p("b")))
        self.told("> # a\n> - b\n", quote(h(1, "a"), bullets((p("b"),))))
        self.told("a\n\n> b\n\nc", p("a"), quote(p("b")), p("c"))

    def test_the_sign_with_and_without_a_blank(self):
        self.same("> a\n> b", ">a\n>b", ">a\n> b", "> a\n>b", ">a\n>  b")
        self.told(">  a", quote(p("a")))
        self.told(">     a", quote(code("a\n")))
        self.told(">      a", quote(code(" a\n")))
        self.told(">    a", quote(p("a")))

    def test_the_sign_with_a_tab(self):
        self.told(">\ta", quote(p("a")))
        self.told(">\t\ta", quote(code("  a\n")))
        self.told("> \ta", quote(p("a")))
        self.told("> \t\ta", quote(code("  a\n")))
        self.told(">  \ta", quote(p("a")))
        self.told(" >\t a", quote(p("a")))
        self.told(">\t<p>\n>\t<b>\n", quote(html("  <p>\n  <b>\n")))

    def test_empty_quotes(self):
        self.told(">", quote())
        self.told("> ", quote())
        self.told(">\t", quote())
        self.told(">\n>\n", quote())
        self.told(">\n\n>\n", quote(), quote())
        self.told(">\n> a\n>\n", quote(p("a")))
        self.told(">\na", quote(), p("a"))

    def test_indents_of_the_sign(self):
        for blanks in ("", " ", "  ", "   "):
            self.told(blanks + "> a\n> b", quote(p("a\nb")))
            self.told("> a\n" + blanks + "> b", quote(p("a\nb")))
            self.told("> # a\n" + blanks + "> b", quote(h(1, "a"), p("b")))
        self.told("    > a", code("> a\n"))
        self.told("\t> a", code("> a\n"))
        self.told("> a\n    > b", quote(p("a\n> b")))
        self.told("> # a\n    > b", quote(h(1, "a")), code("> b\n"))

    def test_a_blank_line_ends_a_quote(self):
        self.told("> a\n\n> b", quote(p("a")), quote(p("b")))
        self.told("> a\n  \n> b", quote(p("a")), quote(p("b")))
        self.told("> a\n>\n\n> b", quote(p("a")), quote(p("b")))
        self.told("> a\n\nb", quote(p("a")), p("b"))

    def test_what_does_not_go_on_ends_a_quote(self):
        self.told("> # a\nb", quote(h(1, "a")), p("b"))
        self.told("> a\n# b", quote(p("a")), h(1, "b"))
        self.told("> a\n- b", quote(p("a")), bullets((p("b"),)))
        self.told("> ```\na\n```", quote(code("", "")), p("a"), code("", ""))
        self.told(">     a\n    b", quote(code("a\n")), code("b\n"))
        self.told("> <div>\na", quote(html("<div>\n")), p("a"))

    def test_a_quote_begins_within_a_paragraph(self):
        self.told("a\n> b", p("a"), quote(p("b")))
        self.told("a\n>", p("a"), quote())
        self.told("- a\n> b", bullets((p("a"),)), quote(p("b")))
        self.told("> a\n> > b", quote(p("a"), quote(p("b"))))

    def test_quotes_in_quotes(self):
        self.told(">>> a", quote(quote(quote(p("a")))))
        self.told("> > a\n> b", quote(quote(p("a\nb"))))
        self.told("> > a\n>\n> b", quote(quote(p("a")), p("b")))
        self.told(">> # a\n> b", quote(quote(h(1, "a")), p("b")))
        self.told("> >\n> a", quote(quote(), p("a")))


class Items(Told):
    def test_ordinary_lists(self):
        self.told("- a", bullets((p("a"),)))
        self.told("- a\n- b\n", bullets((p("a"),), (p("b"),)))
        self.told("1. a\n2. b\n", numbers(1, (p("a"),), (p("b"),)))
        self.told("- a\n\n- b\n", loose((p("a"),), (p("b"),)))
        self.told("- a\n  b\n", bullets((p("a\nb"),)))
        self.told("- a\n\n  b\n", loose((p("a"), p("b"))))
        self.told("- # a\n  ```\n  b\n  ```\n", bullets((h(1, "a"), code("b\n", ""))))

    def test_each_mark(self):
        for sign in "-+*":
            self.told(sign + " a\n" + sign + " b", bullets((p("a"),), (p("b"),), sign=sign))
        for sign in ".)":
            self.told("3" + sign + " a\n1" + sign + " b", numbers(3, (p("a"),), (p("b"),), sign=sign))

    def test_no_marks(self):
        for line in ("-a", "+a", "1.a", "1)a", "a. b", ". b", ") b", "1 . a", "1: a", "1", "-1. a", "+1. a", "*a", "=a", "#a",
                     "a- b", "1.) a", "(1) a", "1,2. a", "x. a", "1- a", "12+ a", "3* a"):
            self.told(line, p(line))

    def test_numbers_of_one_to_ten_digits(self):
        for length in range(1, 10):
            digits = "123456789"[:length]
            self.told(digits + ". a", numbers(int(digits), (p("a"),)))
            self.told(digits + ") a", numbers(int(digits), (p("a"),), sign=")"))
        self.told("1234567890. a", p("1234567890. a"))
        self.told("0000000001) a", p("0000000001) a"))
        self.told("999999999. a", numbers(999999999, (p("a"),)))

    def test_leading_zeros(self):
        self.told("0. a", numbers(0, (p("a"),)))
        self.told("007. a", numbers(7, (p("a"),)))
        self.told("000000000. a", numbers(0, (p("a"),)))
        self.told("000000012) a", numbers(12, (p("a"),), sign=")"))

    def test_only_the_first_number_is_the_start(self):
        self.told("7. a\n3. b\n900. c", numbers(7, (p("a"),), (p("b"),), (p("c"),)))

    def test_other_signs_begin_other_lists(self):
        self.told("- a\n+ b\n* c", bullets((p("a"),)), bullets((p("b"),), sign="+"), bullets((p("c"),), sign="*"))
        self.told("1. a\n2) b", numbers(1, (p("a"),)), numbers(2, (p("b"),), sign=")"))
        self.told("- a\n1. b\n- c", bullets((p("a"),)), numbers(1, (p("b"),)), bullets((p("c"),)))
        self.told("- a\n\n+ b", bullets((p("a"),)), bullets((p("b"),), sign="+"))

    def test_blanks_behind_the_mark(self):
        for many in (1, 2, 3, 4):
            columns = " " * (1 + many)
            self.told("-" + " " * many + "a\n\n" + columns + "b", loose((p("a"), p("b"))))
            self.told("-" + " " * many + "a\n\n" + columns[1:] + "b", bullets((p("a"),)),
                      p("b") if many < 4 else code("b\n"))
            columns = " " * (2 + many)
            self.told("1." + " " * many + "a\n\n" + columns + "b", loose_numbers(1, (p("a"), p("b"))))
        self.told("-     a", bullets((code("a\n"),)))
        self.told("-      a", bullets((code(" a\n"),)))
        self.told("-       a", bullets((code("  a\n"),)))
        self.told("-     a\n\n  b", loose((code("a\n"), p("b"))))
        self.told("-     a\n\n b", bullets((code("a\n"),)), p("b"))
        self.told("12)     a\n\n    b", loose_numbers(12, (code("a\n"), p("b")), sign=")"))

    def test_a_tab_behind_the_mark(self):
        self.told("-\ta\n\n    b", loose((p("a"), p("b"))))
        self.told("-\ta\n\n   b", bullets((p("a"),)), p("b"))
        self.told("-\ta\n\n\tb", loose((p("a"), p("b"))))
        self.told("-\t\ta", bullets((code("  a\n"),)))
        self.told("- \ta\n\n    b", loose((p("a"), p("b"))))
        self.told("-  \ta\n\n    b", loose((p("a"), p("b"))))
        self.told("-   \ta", bullets((code("  a\n"),)))
        self.told("1.\ta\n\n    b", loose_numbers(1, (p("a"), p("b"))))
        self.told("1234567.\ta\n\n            b", loose_numbers(1234567, (p("a"), p("b"))))

    def test_nothing_behind_the_mark(self):
        for mark in ("-", "+", "*", "1.", "2)"):
            sign = mark[-1]
            start = None if len(mark) == 1 else int(mark[0])
            for behind in ("", " ", "  ", "      ", "\t"):
                self.told(mark + behind, ("list", sign, start, True, ((),)))
        self.told("-\n-\n- a", bullets((), (), (p("a"),)))
        self.told("-\n\n-", loose((), ()))

    def test_an_item_may_begin_with_one_blank_line(self):
        self.told("-\n  a", bullets((p("a"),)))
        self.told("-   \n  a", bullets((p("a"),)))
        self.told("-      \n  a", bullets((p("a"),)))
        self.told("-\t\n  a", bullets((p("a"),)))
        self.told("1.\n   a", numbers(1, (p("a"),)))
        self.told("-\n a", bullets(()), p("a"))
        self.told("-\n      a", bullets((code("a\n"),)))
        self.told("-\n  - a", bullets((bullets((p("a"),)),)))
        self.told("-\n  > a", bullets((quote(p("a")),)))

    def test_an_item_may_not_begin_with_two_blank_lines(self):
        self.told("-\n\n  a", bullets(()), p("a"))
        self.told("-\n  \n  a", bullets(()), p("a"))
        self.told("-\n      \n      a", bullets(()), code("  a\n"))
        self.told("- a\n-\n\n  b", bullets((p("a"),), ()), p("b"))
        self.told("-\n\n- a", loose((), (p("a"),)))
        self.told("- -\n\n  a", loose((bullets(()), p("a"))))
        self.told("- -\n\n    a", loose((bullets(()), p("a"))))

    def test_columns(self):
        for mark in ("-", "+", "*", "1.", "1)", "12.", "123456789)"):
            for indent in ("", " ", "  ", "   "):
                wide = " " * len(indent + mark + " ")
                text = indent + mark + " a\n\n"
                items = outline(text + wide + "b")
                self.assertEqual([len(block[4][0]) for block in items], [2], mark)
                self.assertEqual(outline(text + wide + " b"), items)
                self.assertEqual(outline(text + wide[1:] + "b")[0][4], ((p("a"),),))
                self.assertEqual(len(outline(text + wide[1:] + "b")), 2)

    def test_the_indent_of_a_mark(self):
        for indent in ("", " ", "  ", "   "):
            self.told(indent + "- a", bullets((p("a"),)))
            self.told(indent + "1) a", numbers(1, (p("a"),), sign=")"))
        self.told("    - a", code("- a\n"))
        self.told("- a\n - b\n  - c\n   - d", bullets((p("a"),), (p("b"),), (p("c"),), (p("d"),)))
        self.told("- a\n    - b", bullets((p("a"), bullets((p("b"),)))))
        self.told("   - a\n    - b", bullets((p("a\n- b"),)))
        self.told("- a\n\n\n    - b", loose((p("a"), bullets((p("b"),)))))

    def test_lines_with_more_columns(self):
        self.told("- a\n\n      b", loose((p("a"), code("b\n"))))
        self.told("- a\n\n     b", loose((p("a"), p("b"))))
        self.told("- a\n       b", bullets((p("a\nb"),)))

    def test_blank_lines_in_items(self):
        self.told("- a\n\n\n\n  b", loose((p("a"), p("b"))))
        self.told("- a\n \n  \n   \n  b", loose((p("a"), p("b"))))
        self.told("- ```\n  a\n\n     \n\n  ```", bullets((code("a\n\n   \n\n", ""),)))
        self.told("- a\n-\n  b\n\n\n", bullets((p("a"),), (p("b"),)))

    def test_an_item_ends(self):
        self.told("- a\n\nb", bullets((p("a"),)), p("b"))
        self.told("- # a\nb", bullets((h(1, "a"),)), p("b"))
        self.told("- # a\n b", bullets((h(1, "a"),)), p("b"))
        self.told("- ```\n a\n```", bullets((code("", ""),)), p("a"), code("", ""))
        self.told("- a\n\n    b\nc", loose((p("a"), p("b\nc"))))

    def test_a_list_ends_when_something_else_begins(self):
        self.told("- a\n\nb\n\n- c", bullets((p("a"),)), p("b"), bullets((p("c"),)))
        self.told("- a\n# b\n- c", bullets((p("a"),)), h(1, "b"), bullets((p("c"),)))
        self.told("- a\n***\n- c", bullets((p("a"),)), BREAK, bullets((p("c"),)))
        self.told("- a\n> b\n- c", bullets((p("a"),)), quote(p("b")), bullets((p("c"),)))
        self.told("- a\n\n<!-- -->\n\n- b", bullets((p("a"),)), html("<!-- -->\n"), bullets((p("b"),)))
        self.told("- a\n  - b\n\n  c\n  - d", loose((p("a"), bullets((p("b"),)), p("c"), bullets((p("d"),)))))

    def test_a_list_stays_open_behind_its_item(self):
        self.told("- a\n\n\n\n- b", loose((p("a"),), (p("b"),)))
        self.told("-\n\n\n\n-\n", loose((), ()))
        self.told("> - a\n>\n> - b", quote(loose((p("a"),), (p("b"),))))
        self.told("> - a\n\n> - b", quote(bullets((p("a"),))), quote(bullets((p("b"),))))


class WithinParagraphs(Told):
    def test_items_within_a_paragraph(self):
        for line in ("- b", "+ b", "* b", "1. b", "1) b", "01. b", "000000001. b", "- - b", "1.\tb", "-     b"):
            self.assertEqual(outline("a\n" + line), (p("a"),) + outline(line), line)

    def test_what_is_no_item_within_a_paragraph(self):
        for line in ("+", "*", "+ ", "*\t", "1.", "1)", "1. ", "0. b", "2. b", "2) b", "10. b", "00. b", "02. b", "11) b",
                     "100000000. b", "123456789) b"):
            self.told("a\n" + line, p("a\n" + line.rstrip(" \t")))
        self.told("a\n-", h(2, "a"))
        self.told("- a\n  +", bullets((p("a\n+"),)))
        self.told("- a\n  2. b", bullets((p("a\n2. b"),)))
        self.told("> a\n> 2. b", quote(p("a\n2. b")))
        self.told("a\n2. b\n1. c", p("a\n2. b"), numbers(1, (p("c"),)))

    def test_items_behind_other_blocks(self):
        for line in ("+", "2. b", "0) b", "*"):
            self.assertEqual(outline("# a\n" + line), (h(1, "a"),) + outline(line), line)
            self.assertEqual(outline("a\n\n" + line), (p("a"),) + outline(line), line)

    def test_a_lazy_line_may_be_any_item(self):
        self.told("- a\n-", bullets((p("a"),), ()))
        self.told("- a\n+", bullets((p("a"),)), bullets((), sign="+"))
        self.told("1. a\n0. b", numbers(1, (p("a"),), (p("b"),)))
        self.told("- a\n7. b", bullets((p("a"),)), numbers(7, (p("b"),)))
        self.told("> a\n2) b", quote(p("a")), numbers(2, (p("b"),), sign=")"))
        self.told("> a\n*", quote(p("a")), bullets((), sign="*"))
        self.told("- a\n  - b\n  7. c", bullets((p("a"), bullets((p("b"),)), numbers(7, (p("c"),)))))

    def test_items_that_begin_in_the_line(self):
        self.told("a\n- 2. b", p("a"), bullets((numbers(2, (p("b"),)),)))
        self.told("a\n> 2. b", p("a"), quote(numbers(2, (p("b"),))))
        self.told("a\n- *", p("a"), bullets((bullets((), sign="*"),)))
        self.told("a\n>     b", p("a"), quote(code("b\n")))
        self.told("a\n-     b", p("a"), bullets((code("b\n"),)))


class Within(Told):
    def test_containers_within_one_another(self):
        self.told("- - a", bullets((bullets((p("a"),)),)))
        self.told("- - a\n  - b\n- c", bullets((bullets((p("a"),), (p("b"),)),), (p("c"),)))
        self.told("1. - a", numbers(1, (bullets((p("a"),)),)))
        self.told("> - a\n> - b", quote(bullets((p("a"),), (p("b"),))))
        self.told("- > a\n  > b", bullets((quote(p("a\nb")),)))
        self.told("> 1. > a\n>    > b", quote(numbers(1, (quote(p("a\nb")),))))
        self.told("- + * a", bullets((bullets((bullets((p("a"),), sign="*"),), sign="+"),)))

    def test_who_goes_on_is_asked_in_order(self):
        self.told("- > a\n> b", bullets((quote(p("a")),)), quote(p("b")))
        self.told("> - a\n  - b", quote(bullets((p("a"),))), bullets((p("b"),)))
        self.told("> - # a\n>   b", quote(bullets((h(1, "a"), p("b")))))
        self.told("> - # a\n> b", quote(bullets((h(1, "a"),)), p("b")))

    def test_forty_quotes(self):
        for many in (2, 10, 39, 40):
            blocks = (p("a\nb"), p("c"))
            for _ in range(many):
                blocks = (quote(*blocks),)
            self.assertEqual(outline("> " * many + "a\nb\n" + ">" * many + "\n" + ">" * many + "c"), blocks)

    def test_forty_lists(self):
        for many in (2, 10, 39, 40):
            blocks = (p("a\nb"), p("c"))
            for depth in range(many):
                make = bullets if depth else loose
                blocks = (make(blocks, sign="-+"[(many - depth) % 2]),)
            text = "".join("-+"[(many - depth) % 2] + " " for depth in reversed(range(many)))
            self.assertEqual(outline(text + "a\nb\n\n" + "  " * many + "c"), blocks)

    def test_forty_of_both(self):
        many = 20
        blocks = (p("a"),)
        for _ in range(many):
            blocks = (quote(numbers(1, blocks)),)
        self.assertEqual(outline("> 1. " * many + "a"), blocks)
        blocks = (p("a"), p("b"))
        for depth in range(many):
            blocks = (quote(("list", ".", 1, depth > 0, (blocks,))),)
        self.assertEqual(outline("> 1. " * many + "a\n" + ">    " * many + "\n" + ">    " * many + "b"), blocks)

    def test_what_ends_with_its_container(self):
        self.told("> ```\n> a\n\n```\n", quote(code("a\n", "")), code("", ""))
        self.told("> > - a\n\n- b", quote(quote(bullets((p("a"),)))), bullets((p("b"),)))
        self.told("- <!--\n\nb", bullets((html("<!--\n\n"),)), p("b"))

    def test_definitions_in_containers(self):
        self.told("> [a]: /u\n> b", quote(definition("a"), p("b")))
        self.told("- [a]: /u\n  b", bullets((definition("a"), p("b"))))


if __name__ == "__main__":
    unittest.main()
