"""4.1 to 4.5, 4.11: contents, backslashes, codes, addresses, references and breaks."""

import copy
import random
import unittest

from plainmark.blocks import Reader
from plainmark.errors import NoDefinitions, NoSource
from plainmark.inlines import inlines
from shapes import HARD, SOFT, NotEqual, c, em, image, link, others, raw, strong, t

PUNCTUATION = "!\"#$&'()*+,-./:;<=>?@[\\]^_`{|}~"
LETTERS = "abcdefghijklmnopqrstuvwxyzABCDEFGHIJKLMNOPQRSTUVWXYZ"
FIGURES = "0123456789"


class Told(unittest.TestCase):
    def told(self, content, *row):
        self.assertEqual(inlines(content), row, repr(content))

    def texts(self, *contents):
        """Each content is a text of just its signs."""
        for content in contents:
            self.told(content, t(content))


class Contents(Told):
    def test_plain_texts(self):
        self.told("")
        self.texts("a", "a b", "Aa 09", "a  b", ".,:;", "a\tb", "'\"(){}|$^~+-=#?@/")

    def test_white_at_both_ends(self):
        self.texts(" a", "a ", "  a  ", "\ta\t", " ", "  ", "\t")
        self.told("\na", SOFT, t("a"))
        self.told("a\n", t("a"), SOFT)
        self.told("\n", SOFT)
        self.told("\n\n", SOFT, SOFT)
        self.told(" \n a", SOFT, t("a"))
        self.told("  \na", HARD, t("a"))
        self.told("a\n \n", t("a"), SOFT, SOFT)
        self.told("\n\na\n\n", SOFT, SOFT, t("a"), SOFT, SOFT)
        self.told("a  \n  ", t("a"), HARD)
        self.told("a\n\t\nb", t("a"), SOFT, SOFT, t("b"))

    def test_kinds_of_what_is_told(self):
        self.assertEqual(type(inlines("")), tuple)
        for inline in inlines("a*b*`c`<d>\n[](<e> 'f')![](g)<h:i>\\\n"):
            self.assertEqual(type(inline), tuple)
            self.assertEqual(type(inline[0]), str)

    def test_known(self):
        self.assertEqual(inlines("[a]", None), (t("[a]"),))
        self.assertEqual(inlines("[a]", {}), (t("[a]"),))
        self.assertEqual(inlines("[a]", {"a": ("/u", None)}), (link("/u", t("a")),))
        self.assertEqual(inlines("[a]", {"b": ("", ""), "a": ("/u", "t")}), (link("/u", t("a"), title="t"),))
        self.assertEqual(inlines("[a]", {"a": ("", "")}), (link("", t("a"), title=""),))
        self.assertEqual(inlines(known={"a": ("/u", None)}, content="[a]"), (link("/u", t("a")),))

    def test_known_stays(self):
        known = {"a": ("/u", None), "b c": ("v", "t")}
        kept = copy.deepcopy(known)
        inlines("[a][b  c]*x*", known)
        self.assertEqual(known, kept)

    def test_what_is_no_content(self):
        for thing in others() + [(), ("a",), {}, {"a": ("b", None)}, Reader(), NoDefinitions()]:
            for known in (None, {}, {"a": 1}, 7):
                with self.assertRaises(NoSource) as caught:
                    inlines(thing, known)
                self.assertEqual(caught.exception.place, -1)

    def test_known_that_is_no_dict(self):
        for thing in others() + ["", "a", (), ("a",), (("a", ("b", None)),), Reader(), NoDefinitions()]:
            if thing is not None:
                self.assertRaises(NoDefinitions, inlines, "a", thing)

    def test_keys_of_known(self):
        target = ("/u", None)
        for key in ("a", "a b", "\\]", "\\[a\\]", "\\\\", "*", "&amp;", "a" * 999, "'", "1"):
            self.assertEqual(inlines("x", {key: target}), (t("x"),), key)
        for key in ("", " ", "A", "aB", " a", "a ", "a  b", "a\tb", "a\nb", "]", "[", "a]", "[a]", "a[b", "\\\\]", "\n", "a" * 1000,
                    None, True, 1, b"a", ("a",), (), 1.5, frozenset(), NotEqual()):
            self.assertRaises(NoDefinitions, inlines, "x", {key: target})
            self.assertRaises(NoDefinitions, inlines, "x", {"a": target, key: target})

    def test_values_of_known(self):
        for value in (None, (), ("u",), ("u", None, None), ["u", None], "ut", ("u", 1), (1, None), (None, None), (b"u", None),
                      ("u", b"t"), ("u", ("t",)), {"u": None}, 7, (None, "t"), ("u", True), NotEqual()):
            self.assertRaises(NoDefinitions, inlines, "x", {"a": value})
            self.assertRaises(NoDefinitions, inlines, "x", {"a": ("u", None), "b": value})


class Backslashes(Told):
    def test_ahead_of_punctuation(self):
        for sign in PUNCTUATION:
            self.told("\\" + sign, t(sign))
            self.told("a\\" + sign + "b", t("a" + sign + "b"))
            self.told("\\" + sign + "\\" + sign, t(sign + sign))

    def test_ahead_of_others(self):
        for sign in LETTERS + FIGURES + " \t":
            self.texts("\\" + sign, "a\\" + sign + "b")
        self.told("\\ \\a", t("\\ \\a"))

    def test_at_the_end(self):
        self.texts("\\", "a\\")
        self.told("\\\\", t("\\"))
        self.told("\\\\\\", t("\\\\"))
        self.told("a\\\\\\\\", t("a\\\\"))

    def test_ahead_of_a_line_feed(self):
        self.told("a\\\nb", t("a"), HARD, t("b"))
        self.told("a\\\n \t b", t("a"), HARD, t("b"))
        self.told("a \\\nb", t("a "), HARD, t("b"))
        self.told("a  \\\nb", t("a  "), HARD, t("b"))
        self.told("a\\\\\nb", t("a\\"), SOFT, t("b"))
        self.told("a\\\\\\\nb", t("a\\"), HARD, t("b"))
        self.told("a\\ \nb", t("a\\"), SOFT, t("b"))
        self.told("a\\  \nb", t("a\\"), HARD, t("b"))
        self.told("\\\n", HARD)
        self.told("\\\n\\\n", HARD, HARD)
        self.told("\\\n\n", HARD, SOFT)

    def test_they_make_texts_of_marks(self):
        self.told("\\*a*", t("*a*"))
        self.told("*a\\*", t("*a*"))
        self.told("\\`a`", t("`a`"))
        self.told("\\<b>", t("<b>"))
        self.told("\\&amp;", t("&amp;"))
        self.told("\\[a](b)", t("[a](b)"))
        self.told("[a\\](b)", t("[a](b)"))
        self.told("\\![a](b)", t("!"), link("b", t("a")))
        self.told("!\\[a](b)", t("![a](b)"))
        self.told("\\\\*a*", t("\\"), em(t("a")))


class Codes(Told):
    def test_strings_of_one_to_five(self):
        for length in range(1, 6):
            string = "`" * length
            self.told(string + "a" + string, c("a"))
            self.told(f"x{string}a b{string}y", t("x"), c("a b"), t("y"))
            self.texts(string, string + "a", "a" + string)
            for other in range(1, 6):
                if other != length:
                    self.texts(string + "a" + "`" * other)
                    self.told(string + "a" + "`" * other + "b" + string, c("a" + "`" * other + "b"))

    def test_the_first_later_string_counts(self):
        self.told("`a`b`", c("a"), t("b`"))
        self.told("`a``b`c`", c("a``b"), t("c`"))
        self.told("``a`b``", c("a`b"))
        self.told("``a`b`", t("``a"), c("b"))
        self.told("`a``b``", t("`a"), c("b"))
        self.told("```a``b`c``d", t("```a"), c("b`c"), t("d"))

    def test_blanks(self):
        self.told("` a `", c("a"))
        self.told("`  a  `", c(" a "))
        self.told("` a`", c(" a"))
        self.told("`a `", c("a "))
        self.told("` `", c(" "))
        self.told("`  `", c("  "))
        self.told("`     `", c("     "))
        self.told("` \t `", c("\t"))
        self.told("`\t`", c("\t"))
        self.told("`\ta\t`", c("\ta\t"))
        self.told("` `` `", c("``"))
        self.told("`a  b`", c("a  b"))

    def test_line_feeds(self):
        self.told("`a\nb`", c("a b"))
        self.told("`a \n  b`", c("a    b"))
        self.told("`\na\n`", c("a"))
        self.told("`\n\n`", c("  "))
        self.told("`\n`", c(" "))
        self.told("` \na`", c("  a"))
        self.told("`a\n\nb`", c("a  b"))
        self.told("``\n`\n``", c("`"))

    def test_backslashes(self):
        self.told("`\\`", c("\\"))
        self.told("`a\\`b`", c("a\\"), t("b`"))
        self.told("`\\a\\*`", c("\\a\\*"))
        self.told("\\`a`", t("`a`"))
        self.told("\\``a`", t("`"), c("a"))
        self.told("\\```a``", t("`"), c("a"))
        self.told("`a\\``b", t("`a``b"))
        self.told("\\`` `", t("`"), c(" "))
        self.told("\\`a``\\`", t("`a```"))
        self.told("`a``\\`", c("a``\\"))

    def test_codes_go_ahead_of_other_marks(self):
        self.told("*`*`", t("*"), c("*"))
        self.told("`<b>`", c("<b>"))
        self.told("`&amp;`", c("&amp;"))
        self.told("[`a](b)`", t("["), c("a](b)"))
        self.told("<b `>`", t("<b "), c(">"))
        self.told("<b c='`'>`", raw("<b c='`'>"), t("`"))
        self.told("<ab:`>`", link("ab:`", t("ab:`")), t("`"))
        self.told("<a:`>`", t("<a:"), c(">"))

    def test_many_strings(self):
        self.told("".join("`" * length + " " for length in range(1, 60)),
                  t("".join("`" * length + " " for length in range(1, 60))))
        self.told("`a` " * 200, *[one for _ in range(200) for one in (c("a"), t(" "))])


class Addresses(Told):
    def link(self, words):
        self.told(f"<{words}>", link(words, t(words)))
        self.told(f"a <{words}> b", t("a "), link(words, t(words)), t(" b"))

    def test_schemes(self):
        for words in ("http://a.b", "ab:", "a1:x", "A+.-9:x", "ab:", "ab:\\*", "ab:&amp;", "ab:*a*`[]()", "a.b:c:d", "ab:'\""):
            self.link(words)
        self.told("<ab:c d>", t("<ab:c d>"))
        self.told("<ab:c\td>", t("<ab:c\td>"))
        self.told("<ab:c\nd>", t("<ab:c"), SOFT, t("d>"))
        self.told("<ab:c<d>", t("<ab:c"), raw("<d>"))
        self.told("<ab :x>", raw("<ab :x>"))
        self.texts("<1a:x>", "<+a:x>", "<ab", "<ab:x", "<ab_c:x>", "<:x>", "< ab:x>", "<a/b:x>", "<abc:")
        self.told("\\<ab:x>", t("<ab:x>"))

    def test_lengths_of_schemes(self):
        self.texts("<a:x>", "<" + "a" * 33 + ":x>", "<" + "a" * 40 + ":>")
        for length in (2, 3, 31, 32):
            self.link("a" * length + ":x")
        self.link("z" + "9" * 31 + ":")

    def mail(self, words):
        self.told(f"<{words}>", link("mailto:" + words, t(words)))

    def test_addresses(self):
        for words in ("a@b", "a.b@c.d", "A9@B-c.D", "a@1", ".@a", "a@b.c.d.e", "!#$&'*+/=?^_`{|}~-.@a", "a@a-b", "a@" + "b" * 63,
                      "a@" + ".".join(["b" * 63] * 3), "mailto@b", "1@b--c"):
            self.mail(words)

    def test_wrong_addresses(self):
        for words in ("@a", "a@", "a@b.", "a@.b", "a@b..c", "a@-b", "a@b-", "a@b.-c", "a@b-.c", "a b@c", "a@b c", "a@b_c", "a@b@c",
                      "a@" + "b" * 64, "a@b." + "c" * 64, "a,b@c", "a(b@c", "a@b:c", "a\"@b", "a;@b", "a@b/", "a@b+", ",@b", "(a@b", "a@_b", "a@(b",
                      "a@b._c"):
            self.assertEqual([one[0] for one in inlines(f"<{words}>")], ["text"], words)
        self.told("<a\\@b>", t("<a@b>"))
        self.told("<a@b<c>", t("<a@b"), raw("<c>"))

    def test_raw_html(self):
        for html in ("<b>", "</b>", "<b/>", "<b c='d' e>", "<!-- a -->", "<!-->", "<?a?>", "<!A>", "<![CDATA[<]]>", "<b\nc>",
                     "<!-- \n\n -->", "<b c='*`[\n'>"):
            self.told(html, raw(html))
            self.told(f"x{html}y", t("x"), raw(html), t("y"))
        self.told("<b><i>", raw("<b>"), raw("<i>"))
        self.texts("< b>", "<>", "<1>", "<b", "</ b>", "<b c=>", "<", "a<b", "<!>", "<-")

    def test_nothing_within_means_anything(self):
        self.told("*<b c='*'>", t("*"), raw("<b c='*'>"))
        self.told("[<b c=']'>](d)", link("d", raw("<b c=']'>")))
        self.told("<b c='\\'>'>", raw("<b c='\\'>"), t("'>"))
        self.told("<b c='&amp;'>", raw("<b c='&amp;'>"))
        self.told("*<ab:*>", t("*"), link("ab:*", t("ab:*")))

    def test_brackets_ahead_of_an_address(self):
        self.told("[<ab:c>](d)", t("["), link("ab:c", t("ab:c")), t("](d)"))
        self.told("[a <b@c>](d)", t("[a "), link("mailto:b@c", t("b@c")), t("](d)"))
        self.told("[[<ab:c>](d)](e)", t("[["), link("ab:c", t("ab:c")), t("](d)](e)"))
        self.told("![<ab:c>](d)", image("d", link("ab:c", t("ab:c"))))
        self.told("[![<ab:c>](d)](e)", t("["), image("d", link("ab:c", t("ab:c"))), t("](e)"))
        self.told("<ab:c>[d](e)", link("ab:c", t("ab:c")), link("e", t("d")))
        self.told("[a](b)<ab:c>", link("b", t("a")), link("ab:c", t("ab:c")))
        self.told("[<b>](d)", link("d", raw("<b>")))


class References(Told):
    def test_references(self):
        for words, sign in (("&amp;", "&"), ("&lt;", "<"), ("&#42;", "*"), ("&#x2A;", "*"), ("&lowbar;", "_"), ("&Tab;", "\t"),
                            ("&NewLine;", "\n"), ("&#32;", " "), ("&#10;", "\n"), ("&bsol;", "\\"), ("&grave;", "`")):
            self.told(words, t(sign))
            self.told("a" + words + "b", t("a" + sign + "b"))

    def test_wrong_references(self):
        self.texts("&", "&amp", "&x;", "& amp;", "&#37;", "&#0;", "&#;", "&#x;", "&;", "&amp amp;", "a & b", "&#12345678;", "&#127;")
        self.told("&&amp;", t("&&"))
        self.told("&amp;amp;", t("&amp;"))

    def test_their_signs_mark_nothing(self):
        self.told("&#42;a&#42;", t("*a*"))
        self.told("&#91;a](b)", t("[a](b)"))
        self.told("[a&rsqb;(b)", t("[a](b)"))
        self.told("&grave;a`", t("`a`"))
        self.told("&lt;b>", t("<b>"))
        self.told("&bsol;*a*", t("\\"), em(t("a")))
        self.told("&amp;lt;", t("&lt;"))
        self.told("&#10;", t("\n"))


class Breaks(Told):
    def test_soft_and_hard(self):
        self.told("a\nb", t("a"), SOFT, t("b"))
        self.told("a \nb", t("a"), SOFT, t("b"))
        self.told("a  \nb", t("a"), HARD, t("b"))
        self.told("a   \nb", t("a"), HARD, t("b"))
        self.told("a" + " " * 20 + "\nb", t("a"), HARD, t("b"))

    def test_tabs_ahead(self):
        self.told("a\t\nb", t("a"), SOFT, t("b"))
        self.told("a  \t\nb", t("a"), SOFT, t("b"))
        self.told("a\t  \nb", t("a"), HARD, t("b"))
        self.told("a \t \nb", t("a"), SOFT, t("b"))

    def test_white_behind(self):
        for white in (" ", "  ", "\t", " \t  ", "          "):
            self.told("a\n" + white + "b", t("a"), SOFT, t("b"))
            self.told("a  \n" + white + "b", t("a"), HARD, t("b"))
            self.told("a\\\n" + white + "b", t("a"), HARD, t("b"))

    def test_white_that_is_not_written_as_such(self):
        self.told("a&#32;&#32;\nb", t("a  "), SOFT, t("b"))
        self.told("a&#32; \nb", t("a "), SOFT, t("b"))
        self.told("a&#32;  \nb", t("a "), HARD, t("b"))
        self.told("a&Tab; \t\nb", t("a\t"), SOFT, t("b"))
        self.told("a\n&#32; b", t("a"), SOFT, t("  b"))
        self.told("a &#32;\nb", t("a  "), SOFT, t("b"))
        self.told("a  &#32; \nb", t("a   "), SOFT, t("b"))

    def test_behind_other_inlines(self):
        self.told("`a`  \nb", c("a"), HARD, t("b"))
        self.told("`a  `\nb", c("a  "), SOFT, t("b"))
        self.told("*a*  \n*b*", em(t("a")), HARD, em(t("b")))
        self.told("*a  \nb*", em(t("a"), HARD, t("b")))
        self.told("[a  \nb](c)  \nd", link("c", t("a"), HARD, t("b")), HARD, t("d"))
        self.told("<b>  \n<c>", raw("<b>"), HARD, raw("<c>"))
        self.told("<b  \nc>", raw("<b  \nc>"))
        self.told("![  \n](a)", image("a", HARD))
        self.told("[ \n ](a)", link("a", SOFT))
        self.told("a !  \nb", t("a !"), HARD, t("b"))
        self.told("a ]  \nb", t("a ]"), HARD, t("b"))
        self.told("a &  \nb", t("a &"), HARD, t("b"))
        self.told("*  \n*", t("*"), HARD, t("*"))

    def test_several_lines(self):
        self.told("a\nb  \nc\\\nd", t("a"), SOFT, t("b"), HARD, t("c"), HARD, t("d"))

    def test_white_that_a_break_has_left_out(self):
        self.told("a\n  \nb", t("a"), SOFT, SOFT, t("b"))
        self.told("a\\\n  \nb", t("a"), HARD, SOFT, t("b"))
        self.told("a  \n  \nb", t("a"), HARD, SOFT, t("b"))


class Joined(Told):
    def test_neighbouring_texts_are_joined(self):
        self.told("a\\*b&amp;c<d[e]!f_g`h", t("a*b&c<d[e]!f_g`h"))
        self.told("*a", t("*a"))
        self.told("a **b", t("a **b"))
        self.told("**a*", t("*"), em(t("a")))
        self.told("*a**", em(t("a")), t("*"))
        self.told("[a][b]!", t("[a][b]!"))

    def test_no_text_is_empty(self):
        self.told("*a*", em(t("a")))
        self.told("  \n", HARD)
        self.told(" \n", SOFT)
        self.told("[](a)", link("a"))
        self.told("![](a)", image("a"))
        self.told("*[](a)*", em(link("a")))

    def test_over_many_contents(self):
        chance = random.Random(1)
        pieces = ["a", "b ", " ", "  ", "*", "**", "_", "__", "`", "``", "[", "]", "![", "](/u)", "](", ")", "\\", "\n", "<b>", "<ab:c>", "&amp;",
                  "[a]", "<", "!", "'"]
        for _ in range(4000):
            content = "".join(chance.choice(pieces) for _ in range(chance.randint(0, 16)))
            self.good(inlines(content, {"a": ("/v", None)}), content)

    def good(self, row, content):
        """No two texts are neighbours, none is empty, and no emph and no strong is."""
        self.assertIs(type(row), tuple)
        for ahead, behind in zip(row, row[1:]):
            self.assertFalse(ahead[0] == behind[0] == "text", content)
        for inline in row:
            if inline[0] in ("text", "code", "html"):
                self.assertNotEqual(inline[1], "", content)
            elif inline[0] in ("emph", "strong"):
                self.assertNotEqual(inline[1], (), content)
                self.good(inline[1], content)
            elif inline[0] in ("link", "image"):
                self.good(inline[3], content)


class Depth(Told):
    def within(self, make, many):
        row = (t("a"),)
        for _ in range(many):
            row = (make(*row),)
        return row

    def test_eighty_within_one_another(self):
        self.told("![" * 80 + "a" + "](u)" * 80, *self.within(lambda *row: image("u", *row), 80))
        self.told("*" * 160 + "a" + "*" * 160, *self.within(strong, 80))
        self.told("_" * 159 + "a" + "_" * 159, em(*self.within(strong, 79)))
        row = em(t("a"))
        for _ in range(79):
            row = em(t("b "), row, t(" b"))
        self.told("*b " * 79 + "*a*" + " b*" * 79, row)


if __name__ == "__main__":
    unittest.main()
