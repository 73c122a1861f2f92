import itertools
import re
import unittest

from plainmark.tags import tag_at

NAME = "[A-Za-z][A-Za-z0-9-]*+"
GAP = "(?:(?=[ \t\n])[ \t]*+\n?[ \t]*+)"
VALUE = "(?:'[^']*'|\"[^\"]*\"|[^ \t\n\"'=<>`]++)"
ATTRIBUTE = f"{GAP}[A-Za-z_:][A-Za-z0-9_.:-]*+(?:{GAP}?={GAP}?{VALUE})?"
RAW_HTML = re.compile(
    f"<{NAME}(?:{ATTRIBUTE})*{GAP}?/?>"
    f"|</{NAME}{GAP}?>"
    "|<!-->|<!--->|<!--(?:.*?)-->"
    r"|<\?.*?\?>"
    "|<![A-Za-z].*?>"
    r"|<!\[CDATA\[.*?\]\]>", re.DOTALL)

ALLOWED = "\t\n" + "".join(chr(code) for code in range(32, 127) if code != 37)


class Tags(unittest.TestCase):
    def whole(self, *tags):
        """Each of these is raw HTML, wherever it stands and whatever is behind."""
        for tag in tags:
            for ahead in ("", "a", "<", "a b\n", "<b ", "'", "&"):
                for behind in ("", "x", " x", "\n", ">", "'>", "<b>", " -->", "\n\n"):
                    self.assertEqual(tag_at(ahead + tag + behind, len(ahead)),
                                     len(ahead) + len(tag), (ahead, tag, behind))

    def none(self, *texts):
        """At the begin of each of these no raw HTML begins, wherever it stands."""
        for text in texts:
            for ahead in ("", "a", "<", "a b\n", "<b "):
                self.assertIsNone(tag_at(ahead + text, len(ahead)), (ahead, text))

    def test_open_tags(self):
        self.whole("<b>", "<B>", "<a>", "<z>", "<A>", "<Z>", "<b1>", "<b-c>", "<b->", "<b--1-c>",
                   "<pre>", "<h1>", "<aZ09-zA90>")

    def test_names_that_are_wrong(self):
        self.none("<>", "< b>", "<1>", "<1b>", "<-b>", "<_b>", "<:b>", "<b_c>", "<b.c>", "<b:c>",
                  "<\nb>", "<\tb>", "<b@c>", "<.>", "<=>", "<<b>", "<b,>", "<b'>", "<b\\>", "<'b'>")

    def test_open_tags_that_do_not_end(self):
        self.none("<", "<b", "<b ", "<b\n", "<b c", "<b c ", "<b c=d", "<b c='d'", "<b c='d' ",
                  "<b/", "<b /", "<b<", "<b <c>", "<b c<d>", "<b c <d>")

    def test_gaps(self):
        for gap in (" ", "\t", "\n", "  ", " \t ", "\n ", " \n", "\t\n\t", "  \n  "):
            self.whole("<b" + gap + ">", "<b" + gap + "/>", "<b" + gap + "c>",
                       "<b" + gap + "c" + gap + ">", "<b" + gap + "c" + gap + "d>",
                       "<b" + gap + "c='d'" + gap + "e" + gap + "/>",
                       "<b c" + gap + "=d>", "<b c=" + gap + "d>", "<b c=" + gap + "'d'>",
                       "<b" + gap + "c" + gap + "=" + gap + "\"d\"" + gap + ">", "</b" + gap + ">")

    def test_gaps_with_two_line_feeds(self):
        for gap in ("\n\n", " \n\n", "\n \n", "\n\t\n ", " \n \n \n"):
            self.none("<b" + gap + ">", "<b" + gap + "/>", "<b" + gap + "c>", "<b c" + gap + ">",
                      "<b c" + gap + "d>", "<b c" + gap + "=d>", "<b c=" + gap + "d>",
                      "<b c=" + gap + "'d'>", "<b c='d'" + gap + ">", "<b c=d" + gap + "e>",
                      "</b" + gap + ">")

    def test_attributes_without_a_value(self):
        self.whole("<b c>", "<b C>", "<b _>", "<b :>", "<b c d e>", "<b c1_.:-z>", "<b _c>",
                   "<b :c>", "<b _-.:9>", "<b c c>", "<b b>", "<b c. d->")

    def test_keys_that_are_wrong(self):
        self.none("<b 1>", "<b .c>", "<b -c>", "<b c,d>", "<b c/d>", "<b c;>", "<b 'c'>",
                  "<b \"c\">", "<b =>", "<b =c>", "<b c@d>", "<b !>", "<b c\\>", "<b `c`>",
                  "<b [c]>", "<b c*>", "<b c&d>", "<b #c>")

    def test_values_between_signs(self):
        self.whole("<b c=''>", "<b c=\"\">", "<b c='d'>", "<b c=\"d\">", "<b c='\"'>",
                   "<b c=\"'\">", "<b c='\n\n\n'>", "<b c=\"\nd\n\n\">", "<b c='>'>",
                   "<b c=\"<d e='f'>\">", "<b c='`=<>'>", "<b c='\\'>", "<b c=\"\\\">",
                   "<b c='d' e='f'>", "<b c=\"d\"\te='f'>", "<b c='/'/>", "<b c=' d  e '>",
                   "<b c='d'\n>")

    def test_values_that_do_not_end(self):
        self.none("<b c='>", "<b c='d>", "<b c=\">", "<b c=\"d>", "<b c='d\">", "<b c=\"d'>",
                  "<b c='d''>", "<b c='\\''>", "<b c=\"\\\"\">", "<b c='d' e='>")

    def test_values_that_touch_the_next_attribute(self):
        self.none("<b c='d'e>", "<b c=\"d\"e>", "<b c=''=>", "<b c='d'=e>", "<b c='d'\"e\">",
                  "<b c='d'e='f'>", "<b c='d'1>")

    def test_bare_values(self):
        self.whole("<b c=d>", "<b c=1>", "<b c=d/>", "<b c=/>", "<b c=//>", "<b c=d/ />",
                   "<b c= />",
                   "<b c=d/e>", "<b c=d e=f>", "<b c=!#$&()*+,-./:;?@[\\]^_{|}~>",
                   "<b c=d:e?f&g>", "<b c =\td\n/>", "<b c=\n:>", "<b c=d e>")

    def test_bare_values_that_are_wrong(self):
        self.none("<b c=>", "<b c= >", "<b c= =>", "<b c==>", "<b c==d>", "<b c=d=e>",
                  "<b c=`>", "<b c=`d`>", "<b c=d`>", "<b c=d'e>", "<b c=d\"e>", "<b c=d'>",
                  "<b c=<>", "<b c=d<e>", "<b c=d<>", "<b c=\n\nd>", "<b c= =d>", "<b c=d =e>")

    def test_a_sign_that_ends_each_bare_value(self):
        for sign in "\"'=<`":
            self.none("<b c=" + sign + ">", "<b c=d" + sign + ">", "<b c=d" + sign + "e>")
        for sign in " \t\n":
            self.whole("<b c=d" + sign + ">", "<b c=d" + sign + "e>")
            self.none("<b c=d" + sign + "1>", "<b c=d" + sign + "'>", "<b c=d" + sign + "/ >")

    def test_slash_at_the_end(self):
        self.whole("<b/>", "<b />", "<b c/>", "<b c />", "<b c='d'/>", "<b c=\"d\" />", "<b c=d />",
                   "<b\n/>")
        self.none("<b//>", "<b/ >", "<b/ c>", "<b/c>", "<b / >", "<b /c>", "<b c/ >", "<b c/d>",
                  "<b/\n>", "<b c='d'/ >", "<b / c>")

    def test_closing_tags(self):
        self.whole("</b>", "</B>", "</b1-2>", "</b >", "</b\t>", "</b\n>", "</b  \n\t>", "</pre>")
        self.none("</", "</>", "</b", "</b ", "</ b>", "<//b>", "</1>", "</-b>", "</b/>", "</b />",
                  "</b c>", "</b c='d'>", "</b<", "</b_c>", "</b \n\n>", "</b.>", "</\nb>", "</:b>",
                  "< /b>", "/b>")

    def test_comments(self):
        self.whole("<!-->", "<!--->", "<!---->", "<!----->", "<!-- -->", "<!--a-->", "<!-- a b -->",
                   "<!--\n-->", "<!--a\n\nb\n-->", "<!-- - -- ->-->", "<!--<b>-->",
                   "<!--?>-->", "<!---a-->", "<!--a--->", "<!--a----->", "<!--a--b-->", "<!--!>-->",
                   "<!--a- ->-->", "<!-- > -->", "<!-- -> -->")

    def test_comments_end_with_the_first_end(self):
        self.assertEqual(tag_at("<!--> -->", 0), 5)
        self.assertEqual(tag_at("<!---> -->", 0), 6)
        self.assertEqual(tag_at("<!----> -->", 0), 7)
        self.assertEqual(tag_at("<!--a--> -->", 0), 8)

    def test_comments_that_are_wrong(self):
        self.none("<!--", "<!-- ", "<!---", "<!----", "<!-- a", "<!-- a --", "<!-- a ->",
                  "<!-- a -- >", "<!-- a - ->", "<!- a -->", "<! -- a -->", "<-- a -->",
                  "!-- a -->", "<!-a-->", "<!--\n", "<!->", "<!>", "<!- -->")

    def test_instructions(self):
        self.whole("<??>", "<?a?>", "<? a b ?>", "<?\n?>", "<?a\n\nb?>", "<?>?>", "<???>", "<?a>?>",
                   "<?<b>?>", "<?-->?>")
        self.assertEqual(tag_at("<?a?>?>", 0), 5)
        self.none("<?", "<?>", "<?a", "<?a>", "<?a?", "<?a? >", "< ?a?>", "<a?>", "<?>>", "</?a?>",
                  "?a?>", "<?\n>")

    def test_declarations(self):
        self.whole("<!x>", "<!X>", "<!a>", "<!z>", "<!A>", "<!Z>", "<!DOCTYPE html>", "<!x\n>",
                   "<!x\n\ny>", "<!x 'y>", "<!x<y>", "<!x-->", "<!x1>", "<!CDATA[]]>")
        self.assertEqual(tag_at("<!x>>", 0), 4)
        self.assertEqual(tag_at("<!x 'y>'>", 0), 7)
        self.none("<!", "<!x", "<!x ", "<! x>", "<!>", "<!1>", "<!1x>", "<!_x>", "<!-x>", "<!\nx>",
                  "< !x>", "</!x>", "!x>", "<!x\n\n", "<!!x>", "<!:x>", "<!.>")

    def test_cdata(self):
        self.whole("<![CDATA[]]>", "<![CDATA[a]]>", "<![CDATA[\n]]>", "<![CDATA[a\n\nb]]>",
                   "<![CDATA[>]]>", "<![CDATA[]]]>", "<![CDATA[ ]] ]>]]>", "<![CDATA[<b>]]>",
                   "<![CDATA[[]]>", "<![CDATA[ &amp; ]]>")
        self.assertEqual(tag_at("<![CDATA[a]]>]]>", 0), 13)
        self.none("<![CDATA[", "<![CDATA[a", "<![CDATA[a]]", "<![CDATA[a]>", "<![CDATA[a] ]>",
                  "<![CDATA[a]] >", "<![CDATA[>", "<![cdata[a]]>", "<![Cdata[a]]>", "<![CDATA]]>",
                  "<![CDATA a]]>", "<! [CDATA[a]]>", "<![ CDATA[a]]>", "<![CDATA[]>", "<[CDATA[a]]>",
                  "[CDATA[a]]>", "<![CDATa[a]]>", "<![]]>", "<![CDATA")

    def test_places_without_a_sign(self):
        for text in ("", "a", "a<b>", " <b>", "\n<b>", "b>", ">", "/b>", "&lt;b>"):
            self.assertIsNone(tag_at(text, 0), text)
        text = "a<b c='d'>\n</b><!-- e -->"
        begins = [place for place in range(len(text)) if text[place] == "<"]
        found = [place for place in range(len(text) + 1) if tag_at(text, place) is not None]
        self.assertEqual(found, begins)

    def test_the_end_of_the_text(self):
        for text in ("", "a", "<", "<b>", "<b", "<!--", "\n"):
            self.assertIsNone(tag_at(text, len(text)), text)

    def test_each_place_begins_anew(self):
        self.assertEqual(tag_at("<b <c>", 0), None)
        self.assertEqual(tag_at("<b <c>", 3), 6)
        self.assertEqual(tag_at("<b></b><!-->", 3), 7)
        self.assertEqual(tag_at("<b></b><!-->", 7), 12)
        self.assertEqual(tag_at("<!--<b>", 4), 7)

    def test_examples(self):
        self.assertEqual(tag_at("a<b c = 'd'>e", 1), 12)
        for text in ("<b c=>", "<b/ c>", "<b c='d'e>", "< b>", "<?>", "<1>"):
            self.assertIsNone(tag_at(text, 0), text)
        self.assertEqual(tag_at("<!--> -->", 0), 5)
        self.assertEqual(tag_at("<b c=d/>", 0), 8)

    def test_the_kind_of_value_and_by_name(self):
        self.assertIs(type(tag_at("<b>", 0)), int)
        self.assertEqual(tag_at(text="a<b>", place=1), 4)

    def test_long_texts(self):
        lines = "x" * 200 + "\n"
        self.assertEqual(tag_at("<!--" + lines * 199 + "-->", 0), 4 + 201 * 199 + 3)
        attributes = " c='d'" * 3000
        self.assertEqual(tag_at("<b" + attributes + ">", 0), 3 + len(attributes))
        self.assertIsNone(tag_at("<b" + attributes, 0))


class AgainstOneExpression(unittest.TestCase):
    """The words of 1b.6 again, as one regular expression."""

    def check(self, head, signs, most):
        for many in range(most + 1):
            for row in itertools.product(signs, repeat=many):
                text = head + "".join(row)
                found = RAW_HTML.match(text)
                self.assertEqual(tag_at(text, 0), found and found.end(), text)

    def test_each_sign_at_each_place(self):
        for head, tail in (
                ("", "b>"), ("<", ">"), ("<", "b>"), ("<b", ">"), ("<b", "c>"), ("<b", "/>"),
                ("<b/", ">"), ("<b ", ">"), ("<b ", "c>"), ("<b c", ">"), ("<b c", "d>"),
                ("<b c", "=d>"), ("<b c=", ">"), ("<b c=", "d>"), ("<b c=d", ">"), ("<b c=d", "1>"),
                ("<b c='", "'>"), ("<b c='d", ">"), ("<b c=\"", "\">"), ("<b c='d'", ">"),
                ("<b c='d'", "e>"), ("</", ">"), ("</", "b>"), ("</b", ">"), ("</b", "c>"),
                ("<!", ">"), ("<!", "x>"), ("<!x", ">"), ("<!-", "-->"), ("<!--", "-->"),
                ("<!---", "->"), ("<!--a--", "-->"), ("<?", "?>"), ("<?a?", "?>"), ("<?a", ">"),
                ("<![CDATA", "]]>"), ("<![CDATA[", "]]>"), ("<![CDATA[]", "]>"), ("<b>", ">")):
            for sign in ALLOWED:
                text = head + sign + tail
                found = RAW_HTML.match(text)
                self.assertEqual(tag_at(text, 0), found and found.end(), text)

    def test_open_tags(self):
        self.check("<b", "c1-_ \n='\"/><", 4)

    def test_attributes(self):
        self.check("<b ", "c=' \n/>", 5)
        self.check("<b c", "d.=\"` \t\n/>", 4)

    def test_values(self):
        self.check("<b c=", "d='` \n/>", 5)

    def test_ends(self):
        self.check("<b c='d'", "e=' \t\n/>", 4)
        self.check("</b", "c- \t\n/>", 4)

    def test_begins(self):
        self.check("<", "bA1-/!?[> \n", 4)

    def test_other_sorts(self):
        self.check("<!", "-x> \n", 7)
        self.check("<!--", "-> \na", 6)
        self.check("<?", "?> \nx", 5)
        self.check("<![CDATA[", "]> \nx", 5)


if __name__ == "__main__":
    unittest.main()
