"""2.4 to 2.6, 2.8: headings, breaks, codes, HTML, paragraphs, and definitions taken off them."""

import unittest

from plainmark.blocks import outline
from shapes import BREAK, bullets, code, definition, h, html, loose, numbers, p, quote


class Told(unittest.TestCase):
    def told(self, text, *blocks):
        self.assertEqual(outline(text), blocks, text)


class Headings(Told):
    def test_levels(self):
        for level in range(1, 7):
            self.told("#" * level + " a", h(level, "a"))
            self.told("#" * level, h(level, ""))
            self.told("#" * level + "\ta", h(level, "a"))
        self.told("####### a", p("####### a"))
        self.told("#######", p("#######"))

    def test_what_stands_behind_the_row(self):
        self.told("#a", p("#a"))
        self.told("#1", p("#1"))
        self.told("#\\", p("#\\"))
        self.told("# ", h(1, ""))
        self.told("#\t", h(1, ""))
        self.told("#  \t a \t b \t ", h(1, "a \t b"))
        self.told("\\# a", p("\\# a"))

    def test_rows_at_the_end(self):
        self.told("# a #", h(1, "a"))
        self.told("# a ##########", h(1, "a"))
        self.told("## a #\t ", h(2, "a"))
        self.told("# a\t#", h(1, "a"))
        self.told("# a  \t ##", h(1, "a"))
        self.told("# a#", h(1, "a#"))
        self.told("# a##  ", h(1, "a##"))
        self.told("# a \\#", h(1, "a \\#"))
        self.told("# a # b", h(1, "a # b"))
        self.told("# a # #", h(1, "a #"))
        self.told("# a #b#", h(1, "a #b#"))
        self.told("# #", h(1, ""))
        self.told("## ##", h(2, ""))
        self.told("# ## ", h(1, ""))
        self.told("# ## #", h(1, "##"))
        self.told("#\t#", h(1, ""))
        self.told("### ### a", h(3, "### a"))

    def test_indents(self):
        for blanks in ("", " ", "  ", "   "):
            self.told(blanks + "# a", h(1, "a"))
            self.told("b\n" + blanks + "# a\nc", p("b"), h(1, "a"), p("c"))
        self.told("    # a", code("# a\n"))
        self.told("b\n    # a", p("b\n# a"))

    def test_a_heading_is_never_open(self):
        self.told("# a\nb", h(1, "a"), p("b"))
        self.told("# a\n# b", h(1, "a"), h(1, "b"))
        self.told("# a\n===", h(1, "a"), p("==="))
        self.told("> # a\nb", quote(h(1, "a")), p("b"))


class Breaks(Told):
    def test_each_sign(self):
        for sign in "*-_":
            for line in (sign * 3, sign * 4, sign * 50, f"{sign} {sign} {sign}", f"{sign}\t{sign}\t{sign}",
                         f"{sign}  {sign}{sign}", sign * 3 + " \t ", f" {sign}{sign} {sign}", f"{sign}{sign}  {sign} {sign}"):
                self.told(line, BREAK)

    def test_what_is_no_break(self):
        for line in ("**", "__", "+++", "===", "a***", "***a", "*** a", "**-", "---_", "--*", "_ _ _ a", "\\***", "~ ~ ~"):
            self.told(line, p(line))
        self.told("--", p("--"))
        self.told("- -", bullets((bullets(()),)))
        self.told("* *", bullets((bullets((), sign="*"),), sign="*"))
        self.told("- - a", bullets((bullets((p("a"),)),)))
        self.told("_ _", p("_ _"))

    def test_indents(self):
        for blanks in ("", " ", "  ", "   "):
            self.told(blanks + "***", BREAK)
            self.told("a\n" + blanks + "***\nb", p("a"), BREAK, p("b"))
        self.told("    ***", code("***\n"))
        self.told("a\n    ***", p("a\n***"))

    def test_a_break_goes_ahead_of_an_item(self):
        self.told("- a\n***\n- b", bullets((p("a"),)), BREAK, bullets((p("b"),)))
        self.told("* a\n* * *\n* b", bullets((p("a"),), sign="*"), BREAK, bullets((p("b"),), sign="*"))
        self.told("- * * *", bullets((BREAK,)))
        self.told("- ---", BREAK)
        self.told("- ___", bullets((BREAK,)))
        self.told("- - -", BREAK)
        self.told("- - +", bullets((bullets((bullets((), sign="+"),)),)))

    def test_a_break_ends_a_paragraph(self):
        self.told("a\n___\nb", p("a"), BREAK, p("b"))
        self.told("a\n- - -", p("a"), BREAK)
        self.told("> a\n---", quote(p("a")), BREAK)


class Underlines(Told):
    def test_both_levels(self):
        self.told("a\n===", h(1, "a"))
        self.told("a\n---", h(2, "a"))
        self.told("a\n=", h(1, "a"))
        self.told("a\n-", h(2, "a"))
        self.told("a\n====================", h(1, "a"))
        self.told("a\n--\t ", h(2, "a"))
        self.told("a\n=  ", h(1, "a"))

    def test_what_is_no_underline(self):
        for line in ("= =", "==-", "=a", "== a", "a=", "\\==", "+", "__"):
            self.told("a\n" + line, p("a\n" + line))
        self.told("a\n--=", p("a\n--="))
        self.told("a\n- -", p("a"), bullets((bullets(()),)))
        self.told("a\n- - -", p("a"), BREAK)

    def test_texts_of_several_lines(self):
        self.told("a\nb  \n  c \t\n===\nd", h(1, "a\nb  \nc"), p("d"))
        self.told("a\n    b\n---", h(2, "a\nb"))

    def test_indents(self):
        for blanks in ("", " ", "  ", "   "):
            self.told("a\n" + blanks + "===", h(1, "a"))
            self.told("a\n" + blanks + "---", h(2, "a"))
        self.told("a\n    ===", p("a\n==="))
        self.told("a\n    ---", p("a\n---"))
        self.told("a\n\t===", p("a\n==="))

    def test_no_paragraph_is_there(self):
        self.told("===", p("==="))
        self.told("---", BREAK)
        self.told("--", p("--"))
        self.told("a\n\n===", p("a"), p("==="))
        self.told("a\n\n---", p("a"), BREAK)
        self.told("# a\n===", h(1, "a"), p("==="))
        self.told("    a\n---", code("a\n"), BREAK)
        self.told("```\n===\n```\n===", code("===\n", ""), p("==="))
        self.told("===\n===", h(1, "==="))

    def test_lazy_lines_are_no_underlines(self):
        self.told("> a\n===", quote(p("a\n===")))
        self.told("> a\n---", quote(p("a")), BREAK)
        self.told("> a\n--", quote(p("a\n--")))
        self.told("- a\n===", bullets((p("a\n==="),)))
        self.told("- a\n---", bullets((p("a"),)), BREAK)
        self.told("- a\n--", bullets((p("a\n--"),)))
        self.told("> > a\n> ===", quote(quote(p("a\n==="))))

    def test_underlines_in_containers(self):
        self.told("> a\n> ===", quote(h(1, "a")))
        self.told("> a\nb\n> ===", quote(h(1, "a\nb")))
        self.told("- a\n  ---\n- b", bullets((h(2, "a"),), (p("b"),)))
        self.told("- - a\n    ===", bullets((bullets((h(1, "a"),)),)))

    def test_a_container_that_begins_in_the_line(self):
        self.told("a\n> ===", p("a"), quote(p("===")))
        self.told("a\n- ===", p("a"), bullets((p("==="),)))


class Fences(Told):
    def test_lengths_and_signs(self):
        for sign in "`~":
            for length in range(3, 8):
                fence = sign * length
                self.told(f"{fence}\na\n{fence}\nb", code("a\n", ""), p("b"))
                self.told(f"{fence}\n{fence}", code("", ""))
                self.told(f"{fence}\na\n{fence}{sign}\nb", code("a\n", ""), p("b"))
                self.told(f"{fence}\na\n{fence}{sign * 5}", code("a\n", ""))
                self.told(f"{fence}\n{fence[1:]}\n{fence}", code(fence[1:] + "\n", ""))
        self.told("``\na\n``", p("``\na\n``"))
        self.told("~~\na\n~~", p("~~\na\n~~"))

    def test_rows_that_do_not_end_it(self):
        for row in ("``", "~~~", "~~~~~", "``` a", "```~", "`` `", "``````a", "\\```", "    ```", "\t```", "x```"):
            self.told(f"```\n{row}\n```", code(row + "\n", ""))
        for row in ("~~", "```", "```````", "~~~ ~", "~~~a"):
            self.told(f"~~~\n{row}\n~~~", code(row + "\n", ""))

    def test_rows_that_end_it(self):
        for row in ("```", " ```", "  ```", "   ```", "```  ", "```\t", "   ````  \t", "``````````"):
            self.told(f"```\na\n{row}\nb", code("a\n", ""), p("b"))

    def test_it_is_never_ended(self):
        self.told("```", code("", ""))
        self.told("```\n", code("", ""))
        self.told("```\na\n\nb\n\n", code("a\n\nb\n\n", ""))
        self.told("```\n\n", code("\n", ""))
        self.told("```\n  ", code("  \n", ""))
        self.told("> ```\n> a\n\nb", quote(code("a\n", "")), p("b"))
        self.told("- ```\n  a\n\n\nb", bullets((code("a\n\n\n", ""),)), p("b"))

    def test_its_indent_is_taken(self):
        self.told(" ```\n a\nb\n  c\n ```", code("a\nb\n c\n", ""))
        self.told("  ```\na\n b\n  c\n   d\n```", code("a\nb\nc\n d\n", ""))
        self.told("   ```\n    a\n   b\n  c\n   ```", code(" a\nb\nc\n", ""))
        self.told("```\n   a\n    b\n```", code("   a\n    b\n", ""))
        self.told("    ```\n    a", code("```\na\n"))
        self.told("  ```\n\ta\n\t\tb\n  ```", code("  a\n  \tb\n", ""))
        self.told("   ```\n \n     \n   ```", code("\n  \n", ""))

    def test_its_lines_mean_nothing(self):
        lines = "# a\n- b\n> c\n<div>\n[d]: /u\n\n    e\n***\nf\n===\n"
        self.told("```\n" + lines + "```", code(lines, ""))

    def test_infos(self):
        for line, info in (("a", "a"), (" a", "a"), ("\ta b \t", "a b"), ("a  b", "a  b"), ("1", "1"), ("  ", ""), ("#", "#"),
                           ("\\*", "*"), ("\\a", "\\a"), ("&amp;", "&"), ("&#97;", "a"), ("\\&amp;", "&amp;"), ("&x;", "&x;"),
                           ("&#32;a&#9;", " a\t"), ("a&NewLine;b", "a\nb"), ("'a'", "'a'"), ("{a=\"b\"}", "{a=\"b\"}")):
            self.told("```" + line + "\n```", code("", info))
            self.told("~~~" + line + "\n~~~", code("", info))

    def test_signs_in_infos(self):
        self.told("``` a`", p("``` a`"))
        self.told("``` ```", p("``` ```"))
        self.told("```\\`", p("```\\`"))
        self.told("~~~ a`~\n~~~", code("", "a`~"))
        self.told("~~~ ~~~\n~~~", code("", "~~~"))
        self.told("``` ~~~\n```", code("", "~~~"))
        self.told("~~~`\n~~~", code("", "`"))
        self.told("```&grave;\n```", code("", "`"))

    def test_it_ends_a_paragraph(self):
        self.told("a\n```\nb\n```\nc", p("a"), code("b\n", ""), p("c"))
        self.told("a\n~~~", p("a"), code("", ""))
        self.told("> a\n```", quote(p("a")), code("", ""))
        self.told("- a\n```", bullets((p("a"),)), code("", ""))
        self.told("a\n    ```", p("a\n```"))

    def test_in_containers(self):
        self.told("> ```\n> a\n>b\n>  c\n> ```", quote(code("a\nb\n c\n", "")))
        self.told("> ```\n>\n>\n> ```", quote(code("\n\n", "")))
        self.told("- ```\n  a\n    b\n  ```", bullets((code("a\n  b\n", ""),)))
        self.told("-   ```\n     a\n    ```", bullets((code(" a\n", ""),)))
        self.told(">\t```\n>\t a\n>   ```", quote(code(" a\n", "")))
        self.told("- ```\n\n   \n  ```", bullets((code("\n \n", ""),)))


class Indented(Told):
    def test_ordinary_codes(self):
        self.told("    a", code("a\n"))
        self.told("    a\n    b\n", code("a\nb\n"))
        self.told("     a\n      b", code(" a\n  b\n"))
        self.told("    a  \t", code("a  \t\n"))
        self.told("   a", p("a"))
        self.told("    # a\n    - b\n    ```", code("# a\n- b\n```\n"))

    def test_tabs(self):
        self.told("\ta", code("a\n"))
        self.told(" \ta", code("a\n"))
        self.told("  \ta", code("a\n"))
        self.told("   \ta", code("a\n"))
        self.told("    \ta", code("\ta\n"))
        self.told("\t\ta", code("\ta\n"))
        self.told("\t a", code(" a\n"))
        self.told("\ta\tb\t", code("a\tb\t\n"))
        self.told("- a\n\n\t\tb", loose((p("a"), code("  b\n"))))
        self.told(">\t\ta", quote(code("  a\n")))

    def test_blank_lines_between(self):
        self.told("    a\n\n    b", code("a\n\nb\n"))
        self.told("    a\n  \n    b", code("a\n\nb\n"))
        self.told("    a\n\t\n    b", code("a\n\nb\n"))
        self.told("    a\n      \n    b", code("a\n  \nb\n"))
        self.told("    a\n\t \n    b", code("a\n \nb\n"))
        self.told("    a\n    \t\n    b", code("a\n\t\nb\n"))
        self.told("    a\n\n\n \n    b", code("a\n\n\n\nb\n"))

    def test_blank_lines_ahead_and_behind(self):
        self.told("\n      \n    a", code("a\n"))
        self.told("    a\n\n", code("a\n"))
        self.told("    a\n      \n\t\t\n", code("a\n"))
        self.told("    a\n\n\nb", code("a\n"), p("b"))
        self.told("    a\n\n      \nb\n", code("a\n"), p("b"))
        self.told("    \n", )
        self.told("- a\n\n      b\n\n\n- c", loose((p("a"), code("b\n")), (p("c"),)))

    def test_it_ends(self):
        self.told("    a\nb", code("a\n"), p("b"))
        self.told("    a\n   b", code("a\n"), p("b"))
        self.told("    a\n# b", code("a\n"), h(1, "b"))
        self.told("    a\n- b", code("a\n"), bullets((p("b"),)))
        self.told("    a\n\n\n    b\nc\n    d", code("a\n\n\nb\n"), p("c\nd"))

    def test_no_code_behind_a_paragraph(self):
        self.told("a\n    b", p("a\nb"))
        self.told("a\n\n    b", p("a"), code("b\n"))
        self.told("a\n\t\tb  ", p("a\nb"))
        self.told("> a\n    b", quote(p("a\nb")))
        self.told("> a\n>     b", quote(p("a\nb")))
        self.told("- a\n      b", bullets((p("a\nb"),)))
        self.told("> - a\n      b", quote(bullets((p("a\nb"),))))

    def test_code_behind_other_blocks(self):
        self.told("# a\n    b", h(1, "a"), code("b\n"))
        self.told("***\n    b", BREAK, code("b\n"))
        self.told("a\n===\n    b", h(1, "a"), code("b\n"))
        self.told("```\n```\n    b", code("", ""), code("b\n"))
        self.told("<?a?>\n    b", html("<?a?>\n"), code("b\n"))
        self.told("> # a\n    b", quote(h(1, "a")), code("b\n"))
        self.told(">\n    b", quote(), code("b\n"))
        self.told("-\n\n    b", bullets(()), code("b\n"))

    def test_in_containers(self):
        self.told(">     a\n>\n>     b", quote(code("a\n\nb\n")))
        self.told(">     a\n\n    b", quote(code("a\n")), code("b\n"))
        self.told("1.     a\n\n   b", ("list", ".", 1, False, ((code("a\n"), p("b")),)))
        self.told("- -     a\n\n\n        b", bullets((bullets((code("a\n\n\nb\n"),)),)))


class Html(Told):
    def test_the_seven_kinds(self):
        self.told("<script>\n\na\n</script>\nb", html("<script>\n\na\n</script>\n"), p("b"))
        self.told("<!-- a\n\nb -->\nc", html("<!-- a\n\nb -->\n"), p("c"))
        self.told("<?a\n\n?>\nb", html("<?a\n\n?>\n"), p("b"))
        self.told("<!A\n\n>\nb", html("<!A\n\n>\n"), p("b"))
        self.told("<![CDATA[\n\n]]>\nb", html("<![CDATA[\n\n]]>\n"), p("b"))
        self.told("<div>\na\n\nb", html("<div>\na\n"), p("b"))
        self.told("<b>\na\n\nb", html("<b>\na\n"), p("b"))

    def test_it_ends_in_its_first_line(self):
        for line in ("<pre></pre>", "<style>x</script> y", "<!-- a --> b", "<!-->", "<!--->", "<?>", "<?a?> b", "<!a>", "<!x> y",
                     "<![CDATA[]]>", "<textarea></TEXTAREA>"):
            self.told(line + "\na", html(line + "\n"), p("a"))
        for line in ("<div></div>", "<b></b", "</p>", "<hr/>"):
            self.told(line + "\na", *((html(line + "\na\n"),) if line != "<b></b" else (p(line + "\na"),)))

    def test_it_ends_later(self):
        self.told("<pre>\na</pre> b\nc", html("<pre>\na</pre> b\n"), p("c"))
        self.told("<pre>\n</style\n</style>\na", html("<pre>\n</style\n</style>\n"), p("a"))
        self.told("<!--\n--\n->\n-->a\nb", html("<!--\n--\n->\n-->a\n"), p("b"))
        self.told("<?\n>\n? >\n?>", html("<?\n>\n? >\n?>\n"))
        self.told("<!a\n\n\n>x\ny", html("<!a\n\n\n>x\n"), p("y"))
        self.told("<![CDATA[\n]>\n]]>x\ny", html("<![CDATA[\n]>\n]]>x\n"), p("y"))

    def test_it_never_ends(self):
        for line in ("<script>", "<!--", "<?", "<!a", "<![CDATA["):
            self.told(line + "\na\n\n  b\n\n", html(line + "\na\n\n  b\n\n"))
        for line in ("<div>", "<b>"):
            self.told(line + "\na", html(line + "\na\n"))

    def test_a_blank_line_ends_6_and_7(self):
        for line in ("<div>", "</td", "<b>", "<a b='c'/>"):
            for blank in ("", "  ", "\t", "      "):
                self.told(line + "\n # a\n" + blank + "\n    b", html(line + "\n # a\n"), code("b\n"))
            self.told(line + "\n<!--\n\na", html(line + "\n<!--\n"), p("a"))

    def test_its_lines_mean_nothing(self):
        lines = "# a\n- b\n> c\n```\n[d]: /u\n    e\n***\nf\n===\n<pre>\n"
        self.told("<div>\n" + lines, html("<div>\n" + lines))
        self.told("<!--\n" + lines + "-->", html("<!--\n" + lines + "-->\n"))

    def test_white_is_kept(self):
        self.told("  <div>  \n\t a\n    b\t", html("  <div>  \n\t a\n    b\t\n"))
        self.told("   <!--\n   -->", html("   <!--\n   -->\n"))
        self.told("    <div>", code("<div>\n"))
        self.told("<?\n  \n\t\n?>", html("<?\n  \n\t\n?>\n"))

    def test_in_containers(self):
        self.told("> <div>\n>  a\n>\n> b", quote(html("<div>\n a\n"), p("b")))
        self.told("> <div>\na", quote(html("<div>\n")), p("a"))
        self.told("- <!--\n  a\n\n    b\n\n   c -->", bullets((html("<!--\na\n\n  b\n\n c -->\n"),)))
        self.told("- <!--\na", bullets((html("<!--\n"),)), p("a"))
        self.told(">\t<div>\n>\tb", quote(html("  <div>\n  b\n")))
        self.told("- <!--\n     \n  -->", bullets((html("<!--\n   \n-->\n"),)))
        self.told("- <b>\n- </b>", bullets((html("<b>\n"),), (html("</b>\n"),)))

    def test_it_ends_a_paragraph_but_for_kind_7(self):
        for line in ("<pre>", "<!--", "<?", "<!a", "<![CDATA[", "<div>", "</p", "<td/>"):
            self.told("a\n" + line, p("a"), html(line + "\n"))
            self.told("> a\n" + line, quote(p("a")), html(line + "\n"))
            self.told("- a\n" + line, bullets((p("a"),)), html(line + "\n"))
        for line in ("<b>", "</b>", "<a b='c'>", "<x-y/>", "<b> "):
            self.told("a\n" + line, p("a\n" + line.strip()))
            self.told("> a\n" + line, quote(p("a\n" + line.strip())))
            self.told("> a\n> " + line, quote(p("a\n" + line.strip())))
            self.told("- a\n" + line, bullets((p("a\n" + line.strip()),)))
            self.told("# a\n" + line, h(1, "a"), html(line + "\n"))
            self.told("a\n\n" + line, p("a"), html(line + "\n"))
            self.told("> # a\n" + line, quote(h(1, "a")), html(line + "\n"))
            self.told("a\n> " + line, p("a"), quote(html(line + "\n")))
            self.told("a\n- " + line, p("a"), bullets((html(line + "\n"),)))

    def test_what_is_no_html(self):
        for line in ("<b> a", "< div>", "<1>", "<>", "<b", "<!>", "<! a>", "<!1>", "</pre>", "</script>", "<b/ c>", "\\<div>"):
            self.told(line, p(line))


class Paragraphs(Told):
    def test_ordinary_paragraphs(self):
        self.told("a", p("a"))
        self.told("a\nb\n", p("a\nb"))
        self.told("a\n\nb", p("a"), p("b"))
        self.told("a\n\n\n \n\nb\n\n", p("a"), p("b"))
        self.told("a\n\t\nb", p("a"), p("b"))

    def test_nothing(self):
        for text in ("", "\n", "\n\n", " ", "\t\n  \n", "     "):
            self.told(text)

    def test_white(self):
        self.told("  a\n   b\n\t c", p("a\nb\nc"))
        self.told("a  \nb\t \nc \t", p("a  \nb\t \nc"))
        self.told("a   \n\n", p("a"))
        self.told("a\n          b", p("a\nb"))

    def test_lazy_lines(self):
        self.told("> a\nb", quote(p("a\nb")))
        self.told("> a\n   b\n> c", quote(p("a\nb\nc")))
        self.told("- a\nb", bullets((p("a\nb"),)))
        self.told("- a\n b\n  c\nd", bullets((p("a\nb\nc\nd"),)))
        self.told("> - a\nb", quote(bullets((p("a\nb"),))))
        self.told("> - a\n> b", quote(bullets((p("a\nb"),))))
        self.told("> > > a\nb\n> c\n> > d", quote(quote(quote(p("a\nb\nc\nd")))))
        self.told("1. > a\nb", numbers(1, (quote(p("a\nb")),)))
        self.told("1. > a\n   b", numbers(1, (quote(p("a\nb")),)))
        self.told("- a\nb\n- c", bullets((p("a\nb"),), (p("c"),)))

    def test_no_lazy_lines_behind_blank_lines(self):
        self.told("> a\n>\nb", quote(p("a")), p("b"))
        self.told("> a\n\nb", quote(p("a")), p("b"))
        self.told("- a\n\nb", bullets((p("a"),)), p("b"))
        self.told("> - a\n>\nb", quote(bullets((p("a"),))), p("b"))

    def test_no_lazy_lines_behind_other_leaves(self):
        for line, block in (("# a", h(1, "a")), ("***", BREAK), ("    a", code("a\n")), ("```", code("", "")),
                            ("<div>", html("<div>\n"))):
            self.told("> " + line + "\nb", quote(block), p("b"))
            self.told("- > " + line + "\nb", bullets((quote(block),)), p("b"))

    def test_what_ends_a_paragraph(self):
        self.told("a\n# b\nc\n***\nd\n> e\n\nf\n- g", p("a"), h(1, "b"), p("c"), BREAK, p("d"), quote(p("e")), p("f"),
                  bullets((p("g"),)))

    def test_a_new_paragraph_ends_what_did_not_go_on(self):
        self.told("- # a\nb\n- c", bullets((h(1, "a"),)), p("b"), bullets((p("c"),)))
        self.told("> # a\nb\n> c", quote(h(1, "a")), p("b"), quote(p("c")))


class Definitions(Told):
    def test_ahead_of_a_text(self):
        self.told("[a]: /u", definition("a"))
        self.told("[a]: /u\nb", definition("a"), p("b"))
        self.told("[a]: /u\n[b]: <v> 't'\nc\nd", definition("a"), definition("b", "v", "t"), p("c\nd"))
        self.told("[A  b]: /u\n'x\ny'\n[c]:\n/v", definition("a b", "/u", "x\ny"), definition("c", "/v"))
        self.told("[a]: /u\n\n[b]: /v", definition("a"), definition("b", "/v"))

    def test_not_behind_a_text(self):
        self.told("a\n[a]: /u", p("a\n[a]: /u"))
        self.told("[a]: /u\nb\n[c]: /v", definition("a"), p("b\n[c]: /v"))
        self.told("[a]: /u b\n[c]: /v", p("[a]: /u b\n[c]: /v"))

    def test_indents(self):
        for blanks in ("", " ", "  ", "   "):
            self.told(blanks + "[a]: /u", definition("a"))
        self.told("    [a]: /u", code("[a]: /u\n"))
        self.told("[a]: /u\n      [b]: /v\n\t\t[c]:\n          /w", definition("a"), definition("b", "/v"), definition("c", "/w"))
        self.told("[a]: /u\n    b", definition("a"), p("b"))

    def test_white_at_the_end(self):
        self.told("[a]: /u  \n", definition("a"))
        self.told("[a]: /u 't' \t", definition("a", "/u", "t"))
        self.told("[a]: /u\t\nb  ", definition("a"), p("b"))

    def test_titles_that_are_none(self):
        self.told("[a]: /u\n't' b", definition("a"), p("'t' b"))
        self.told("[a]: /u\n't", definition("a"), p("'t"))
        self.told("[a]: /u\n't\n\nb'", definition("a"), p("'t"), p("b'"))
        self.told("[a]: /u 't' b", p("[a]: /u 't' b"))

    def test_a_line_behind_is_one_of_a_paragraph(self):
        self.told("[a]: /u\n2. b", definition("a"), p("2. b"))
        self.told("[a]: /u\n<b>", definition("a"), p("<b>"))
        self.told("[a]: /u\n+", definition("a"), p("+"))
        self.told("[a]: /u\n- b", definition("a"), bullets((p("b"),)))
        self.told("[a]: /u\n# b", definition("a"), h(1, "b"))
        self.told("[a]: /u\n```", definition("a"), code("", ""))

    def test_ahead_of_an_underline(self):
        self.told("[a]: /u\nb\n===", definition("a"), h(1, "b"))
        self.told("[a]: /u\n[b]: /v\nc\nd\n---", definition("a"), definition("b", "/v"), h(2, "c\nd"))
        self.told("[a]: /u\n===", definition("a"), p("==="))
        self.told("[a]: /u\n===\n===", definition("a"), h(1, "==="))
        self.told("[a]: /u\n---", definition("a"), BREAK)
        self.told("[a]: /u\n--", definition("a"), p("--"))
        self.told("[a]: /u\n-", definition("a"), p("-"))
        self.told("[a]:\n===", h(1, "[a]:"))
        self.told("[a]: /u b\n===", h(1, "[a]: /u b"))
        self.told("[a]: /u\n't\n===", definition("a"), h(1, "'t"))

    def test_in_containers(self):
        self.told("> [a]: /u\nb", quote(definition("a"), p("b")))
        self.told("> [a]:\n/u\n> 't'", quote(definition("a", "/u", "t")))
        self.told("- [a]: /u\n  ===\n- [b]: /v\n\n  c", ("list", "-", None, False, (
            (definition("a"), p("===")), (definition("b", "/v"), p("c")))))
        self.told("> [a]: /u\n===", quote(definition("a"), p("===")))


class Order(Told):
    def test_the_first_that_fits_begins(self):
        self.told("a\n---", h(2, "a"))
        self.told("- - -\n", BREAK)
        self.told("a\n***", p("a"), BREAK)
        self.told("> # a", quote(h(1, "a")))
        self.told("- <!--", bullets((html("<!--\n"),)))
        self.told("# - a", h(1, "- a"))
        self.told("+ # a", bullets((h(1, "a"),), sign="+"))

    def test_a_document_of_all(self):
        self.told("# a\n\nb\nc\n\n- d\n\n  > e\n  f\n\n      g\n- ```h\n  i\n  ```\n***\n<p>\nj\n\n[k]: /l\nm\n---\n",
                  h(1, "a"), p("b\nc"), loose((p("d"), quote(p("e\nf")), code("g\n")), (code("i\n", "h"),)), BREAK,
                  html("<p>\nj\n"), definition("k", "/l"), h(2, "m"))


if __name__ == "__main__":
    unittest.main()
