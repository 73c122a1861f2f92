import unittest

from plainmark.tags import html_ends, html_kind

RAW = ("script", "pre", "style", "textarea")
BLOCKS = (
    "address article aside base basefont blockquote body caption center col colgroup dd details "
    "dialog dir div dl dt fieldset figcaption figure footer form frame frameset h1 h2 h3 h4 h5 h6 "
    "head header hr html iframe legend li link main menu menuitem nav noframes ol optgroup option "
    "p param search section summary table tbody td tfoot th thead title tr track ul").split()
ALLOWED = "\t" + "".join(chr(code) for code in range(32, 127) if code != 37)
LETTERS = "abcdefghijklmnopqrstuvwxyzABCDEFGHIJKLMNOPQRSTUVWXYZ"


def mixed(name):
    return "".join(sign.upper() if place & 1 else sign for place, sign in enumerate(name))


def cases(name):
    return (name, name.upper(), mixed(name))


class Kinds(unittest.TestCase):
    def check(self, kind, *lines):
        for line in lines:
            self.assertEqual(html_kind(line), kind, line)

    def test_no_html(self):
        self.check(0, "", "<", "a", ">", "</", "<>", "</>", "< p>", "</ p>", "<1>", "<-->", "<=",
                   "a<p>", "p>", "&lt;p>", "<\tp>", "<<p>", "//p>", "<_a>", "<:a>")

    def test_another_sign_than_the_first_one(self):
        for sign in ALLOWED.replace("<", ""):
            self.check(0, sign, sign + "pre", sign + "p>", sign + "!--", sign + "?", sign + "!x",
                       sign + "![CDATA[", sign + "b>", sign + "/p>", sign + "/b>", sign + "<b>",
                       sign + "<p", sign + "<pre>")

    def test_each_sign_at_a_place_that_tells_the_kind(self):
        for sign in ALLOWED:
            ends_name = sign in " \t>"
            self.check(1 if ends_name else 0, "<pre" + sign, "<STYLE" + sign)
            self.check(6 if ends_name else 0, "<p" + sign, "</H1" + sign)
            self.check(3 if sign == "?" else 6 if sign in "pP" else 0, "<" + sign)
            self.check(2 if sign == "-" else 4 if sign in LETTERS else 0, "<!" + sign + "-")
            self.check(4 if sign in LETTERS else 0, "<!" + sign)
            self.check(7 if sign in " \t" else 0, "<b>" + sign, "</b>" + sign)

    def test_an_indent_is_not_passed_over(self):
        self.check(0, " <p>", "\t<p>", "   <!--", " <?", " <b>", " <pre>", " <!x", " <![CDATA[")

    def test_kind_1_with_each_thing_behind(self):
        for name in RAW:
            for one in cases(name):
                self.check(1, "<" + one, "<" + one + ">", "<" + one + " ", "<" + one + "\t",
                           "<" + one + " a", "<" + one + "\ta=b>", "<" + one + ">x",
                           "<" + one + "></" + one + ">", "<" + one + " />", "<" + one + "> <p>")

    def test_kind_1_closing_is_none(self):
        for name in RAW:
            for one in cases(name):
                self.check(0, "</" + one, "</" + one + ">", "</" + one + " ", "</" + one + " >",
                           "</" + one + "> a")

    def test_kind_1_with_other_signs_behind_is_none(self):
        for name in RAW:
            for one in cases(name):
                self.check(0, "<" + one + "/>", "<" + one + "/", "<" + one + "<", "<" + one + "=",
                           "<" + one + "x", "<" + one + "1", "<" + one + "-", "<" + one + ".>",
                           "<" + one[:-1])

    def test_names_that_only_begin_like_kind_1(self):
        for name in RAW:
            for one in cases(name):
                self.check(7, "<" + one + "x>", "<" + one + "1>", "<" + one + "-a>",
                           "</" + one + "x>", "<x-" + one + ">", "<" + one[:-1] + "0>")

    def test_kind_2(self):
        self.check(2, "<!--", "<!-->", "<!--->", "<!---->", "<!-- a", "<!-- a -->", "<!--x--> y",
                   "<!--<p>", "<!--\t")
        self.check(0, "<!-", "<!", "<-", "<--", "<!- -", "<! --", "<!->")

    def test_kind_3(self):
        self.check(3, "<?", "<?>", "<? a", "<?a?>", "<?a?> b", "<??", "<?<p>")
        self.check(0, "<", "< ?", "</?>", "?>")

    def test_kind_4(self):
        for sign in LETTERS:
            self.check(4, "<!" + sign, "<!" + sign + ">", "<!" + sign + " a> b")
        self.check(4, "<!DOCTYPE html>", "<!doctype", "<!a-", "<!CDATA[")
        self.check(0, "<!", "<! a>", "<!1>", "<!>", "<!_a>", "<!\ta", "</!a>", "<!/a>", "<!=a>")

    def test_kind_5(self):
        self.check(5, "<![CDATA[", "<![CDATA[]]>", "<![CDATA[ a", "<![CDATA[a]]> b", "<![CDATA[[")
        self.check(0, "<![CDATA", "<![cdata[", "<![Cdata[", "<![CDATa[", "<![", "<![ CDATA[",
                   "<[CDATA[", "<![CDATA [", "<! [CDATA[", "<![CDATA(")

    def test_kind_6_has_sixty_two_names(self):
        self.assertEqual(len(BLOCKS), 62)
        self.assertEqual(len(set(BLOCKS)), 62)

    def test_kind_6_with_each_thing_behind(self):
        for name in BLOCKS:
            for one in cases(name):
                for begin in ("<", "</"):
                    head = begin + one
                    self.check(6, head, head + ">", head + "/>", head + " ", head + "\t",
                               head + " x", head + "\tx", head + ">x", head + "/>x", head + " <",
                               head + " a='", head + "> <!--", head + "><pre>", head + " /")

    def test_kind_6_with_a_letter_more_is_another_name(self):
        for name in BLOCKS:
            more = [one + "x" for one in cases(name)]
            more += [one + "-" for one in cases(name)]
            for one in more:
                self.check(7, "<" + one + ">", "</" + one + ">", "<" + one + "/>",
                           "<" + one + " > ")
                self.check(0, "<" + one, "</" + one, "<" + one + "> x", "</" + one + "/>",
                           "<" + one + " ", "</" + one + " ")

    def test_kind_6_with_other_signs_behind_is_none(self):
        for name in BLOCKS:
            for begin in ("<", "</"):
                head = begin + name
                self.check(0, head + "/", head + "/ >", head + "<", head + "=", head + ".>",
                           head + "'", head + "/a>", head + "//>", head + "_", head + ":>")

    def test_kind_6_with_something_between(self):
        self.check(0, "< p", "</ p", "<//p>", "< /p>", "<<p>", "<\tdiv>", "<!>")

    def test_names_of_no_kind_6(self):
        for name in ("a", "b", "em", "h7", "h0", "h", "img", "span", "source", "i", "ins", "del",
                     "code", "br", "command", "video", "table1", "t", "d", "u", "o", "menuitems"):
            for one in cases(name):
                self.check(7, "<" + one + ">", "</" + one + ">", "<" + one + "/>",
                           "<" + one + " >")
                self.check(0, "<" + one, "</" + one, "<" + one + "> x", "</" + one + ">x")

    def test_kind_7(self):
        self.check(7, "<b>", "<b c>", "<b/>", "<b />", "<b c='d'>", "<b c=\"d\" e=f>", "<b c=d/>",
                   "</b>", "</b >", "</b\t>", "<b1-2>", "<b \t:c_.-=d>", "<B>", "</B>",
                   "<b c='>'>", "<b c='<p>'>", "<b\t>")

    def test_kind_7_with_white_behind(self):
        self.check(7, "<b> ", "<b>\t", "<b> \t  ", "</b> ", "</b>\t\t", "<b c/>  ")

    def test_kind_7_with_something_else_behind(self):
        self.check(0, "<b>x", "<b> x", "<b>\tx", "<b></b>", "<b> </b>", "</b>.", "</b> <b>",
                   "<b>>", "<b/>>", "<b> <", "<b>  -")

    def test_kind_7_with_no_whole_tag(self):
        self.check(0, "<b", "<b ", "<b c", "<b c=", "<b c=>", "<b c='d>", "<b c=\"d>", "<b/ >",
                   "<b/ c>", "</b c>", "</b/>", "<b c='d'e>", "<b =c>", "<b 1>", "<b c==d>",
                   "<b 'c'>", "<b,c>", "<b;>", "</ b>", "<b@c.d>", "<ab:c>")

    def test_the_first_kind_that_fits(self):
        self.check(2, "<!--[CDATA[", "<!--?>", "<!--a>")
        self.check(4, "<!a--", "<!a[CDATA[")
        self.check(3, "<?!--", "<?p>")
        self.check(6, "<p>", "<p> ", "</p>", "<hr/>")
        self.check(1, "<pre>", "<style> ", "<script a='b'>")

    def test_examples(self):
        self.check(7, "<b c>")
        self.check(0, "<b c> x")
        self.check(6, "</P x")
        self.check(0, "<pre/>")

    def test_the_kind_of_value_and_by_name(self):
        for line in ("", "<p", "<b>", "<!--", "a"):
            self.assertIs(type(html_kind(line)), int)
        self.assertEqual(html_kind(line="<p"), 6)


class Ends(unittest.TestCase):
    def ends(self, kind, *lines):
        for line in lines:
            self.assertIs(html_ends(kind, line), True, (kind, line))

    def goes_on(self, kind, *lines):
        for line in lines:
            self.assertIs(html_ends(kind, line), False, (kind, line))

    def anywhere(self, kind, end):
        self.ends(kind, end, end + "x", "x" + end, "x" + end + "x", " " + end, end + " ",
                  "\t" + end + " <p>", end + end)

    def nearly(self, kind, end):
        self.goes_on(kind, "", " ", "x", end[1:], end[:-1],
                     *[end[:place] + " " + end[place:] for place in range(1, len(end))])

    def test_kind_1(self):
        for name in RAW:
            for one in cases(name):
                self.anywhere(1, "</" + one + ">")
                self.nearly(1, "</" + one + ">")
                self.goes_on(1, "<" + one + ">", "</" + one + " >", "</" + one + "/>", one + ">",
                             "</" + one + "x>", "<" + one + "/>", "<//" + one + ">")

    def test_kind_1_ends_with_any_of_its_names(self):
        self.ends(1, "<pre></script>", "<script></STYLE>", "<style>a</TextArea>b")

    def test_kind_1_ends_with_no_other_name(self):
        self.goes_on(1, "</p>", "</div>", "</b>", "-->", "?>", ">", "]]>", "</>", "</h1>")

    def test_kind_2(self):
        self.anywhere(2, "-->")
        self.nearly(2, "-->")
        self.ends(2, "<!-->", "<!--->", "<!---->", "<!-- a -->", "--->", "-->->")
        self.goes_on(2, "<!--", "<!--a", "--", "->", "->-", "--!>", "]]>", "?>", "</pre>")

    def test_kind_3(self):
        self.anywhere(3, "?>")
        self.nearly(3, "?>")
        self.ends(3, "<?>", "<??>", "<?a?>", "??>")
        self.goes_on(3, "<?", ">", "?", ">?", "-->", "]]>", "<?a>")

    def test_kind_4(self):
        self.anywhere(4, ">")
        self.ends(4, "<!a>", "->", "-->", "?>", "a > b")
        self.goes_on(4, "", " ", "<!a", "<", "a", "&gt;")

    def test_kind_5(self):
        self.anywhere(5, "]]>")
        self.nearly(5, "]]>")
        self.ends(5, "<![CDATA[]]>", "<![CDATA[a]]>b", "]]]>")
        self.goes_on(5, "<![CDATA[", "]>", "]]", ">", "]>]", "-->", "?>", "<![CDATA[>")

    def test_kinds_6_and_7(self):
        for kind in (6, 7):
            self.ends(kind, "", " ", "\t", "    ", " \t ", "\t\t")
            self.goes_on(kind, "a", " a", "a ", "\ta", ">", "</p>", "-->", "?>", "]]>", "</pre>",
                         " .", "\t-")

    def test_a_blank_line_ends_no_other_kind(self):
        for kind in (1, 2, 3, 4, 5):
            self.goes_on(kind, "", " ", "\t", "  \t")

    def test_each_sign(self):
        for sign in ALLOWED:
            for kind in (6, 7):
                self.assertIs(html_ends(kind, sign), sign in " \t", (kind, sign))
                self.assertIs(html_ends(kind, " " + sign + "\t"), sign in " \t", (kind, sign))
            self.assertIs(html_ends(4, sign), sign == ">", sign)
            self.assertIs(html_ends(2, "-" + sign + ">"), sign == "-", sign)
            self.assertIs(html_ends(3, sign + ">"), sign == "?", sign)
            self.assertIs(html_ends(5, "]" + sign + ">"), sign == "]", sign)
            self.assertIs(html_ends(1, "<" + sign + "pre>"), sign == "/", sign)

    def test_by_name(self):
        self.assertIs(html_ends(kind=2, line="-->"), True)
        self.assertIs(html_ends(kind=6, line="-->"), False)


if __name__ == "__main__":
    unittest.main()
