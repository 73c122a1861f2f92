"""4.8 to 4.10: links and images, their targets and labels."""

import unittest

from plainmark.inlines import inlines
from shapes import HARD, SOFT, c, em, image, link, raw, strong, t

KNOWN = {"a": ("/u", "t"), "b": ("/v", None), "a b": ("/w", ""), "*": ("/x", None), "\\]": ("/y", None), "!": ("/z", None)}


class Told(unittest.TestCase):
    def told(self, content, *row):
        self.assertEqual(inlines(content, KNOWN), row, repr(content))

    def texts(self, *contents):
        for content in contents:
            self.told(content, t(content))


def known(label, *row, make=link):
    return make(KNOWN[label][0], *row, title=KNOWN[label][1])


class Targets(Told):
    def target(self, target, destination, title=None):
        self.told(f"[c]({target})", link(destination, t("c"), title=title))
        self.told(f"![c]({target}) x", image(destination, t("c"), title=title), t(" x"))

    def no_target(self, *targets):
        for target in targets:
            for mark in ("[", "!["):
                row = inlines(f"{mark}c]({target})", KNOWN)
                self.assertTrue(row[0][1].startswith(mark + "c]("), row)
                self.assertFalse({one[0] for one in row} & {"link", "image"}, target)

    def test_nothing_in_it(self):
        for target in ("", " ", "   ", "\t", "\n", " \n\t "):
            self.target(target, "")
        self.no_target("\n\n", " \n \n ")

    def test_destinations(self):
        for destination in ("a", "/u", "#", "a.b/c?d=e&f", "'", "\"", "a\"b", "a'b'", "*", "[", "]", "!", "=", "a<", "a>b", ">"):
            self.target(destination, destination)
        self.target(" a ", "a")
        self.target("\n\ta \n", "a")
        self.no_target("\n\na", "a\n\n", "a b", "a\tb", "a b c", "<a")

    def test_destinations_between_angles(self):
        self.target("<>", "")
        self.target("<a>", "a")
        self.target("<a b>", "a b")
        self.target("< a\t>", " a\t")
        self.target("<a(b>", "a(b")
        self.target("<a)b>", "a)b")
        self.target("<a'\"b>", "a'\"b")
        self.target("<\\<\\>>", "<>")
        self.target("<a\\\\>", "a\\")
        self.target("<a\\b>", "a\\b")
        self.target("\n<a>\n", "a")
        self.no_target("<a<b>", "<a\nb>", "<a>b", "<a> b", "<a\\>", "a<b> c", "<", "<a\\\\>b>")

    def test_brackets_in_destinations(self):
        self.target("a(b)c", "a(b)c")
        self.target("()", "()")
        self.target("(a(b)c)", "(a(b)c)")
        self.target("\\(", "(")
        self.target("a\\)b", "a)b")
        self.target("(\\))", "())")
        self.target("(a)(b)", "(a)(b)")
        self.no_target("(", "a(b", "((a)", "(a b)")
        self.told("[c](a)b)", link("a", t("c")), t("b)"))
        self.told("[c](a))", link("a", t("c")), t(")"))

    def test_32_and_33_brackets(self):
        for many in (1, 31, 32):
            self.target("(" * many + "a" + ")" * many, "(" * many + "a" + ")" * many)
            self.target("()" * many, "()" * many)
        self.target("<" + "(" * 33 + ">", "(" * 33)
        self.target("()" * 50, "()" * 50)
        self.target("\\(" * 40, "(" * 40)
        self.no_target("(" * 33 + "a" + ")" * 33, "(" * 40 + ")" * 40)

    def test_titles(self):
        for destination, told in (("a", "a"), ("<>", ""), ("<a b>", "a b")):
            for title, words in (('"t"', "t"), ("'t'", "t"), ("(t)", "t"), ('""', ""), ("''", ""), ("()", ""), ('"a b"', "a b"),
                                 ("'\"'", "\""), ("\"'\"", "'"), ("'('", "("), ("(\"')", "\"'"), ("'a\nb'", "a\nb"), ("'a\n\nb'", "a\n\nb"),
                                 ("'\\''", "'"), ('"\\""', '"'), ("(\\(\\))", "()"), ("'\\\\'", "\\"), ("'&amp;\\&lt;\\a'", "&&lt;\\a"),
                                 ("'*[]`'", "*[]`"), ("' \t'", " \t")):
                for gap in (" ", "\t", "\n", "  \n ", " \t"):
                    self.target(destination + gap + title, told, words)
                    self.target(" " + destination + gap + title + " \n", told, words)

    def test_wrong_titles(self):
        self.no_target("<a>'t'", "a 't", "a 't' b", "a 't'x", "a (t", "a ((t)", "a \"t'", "a ''t'", "a\n\n't'", "a 't'\n\n", "'t' a",
                       "a 't' 'u'", "a t", "a '\\'")
        self.target("a't'", "a't'")
        self.target("a\"", "a\"")
        self.target("'t'", "'t'")
        self.target("(t)", "(t)")
        self.no_target(" \"a b\"")

    def test_decoded(self):
        self.target("\\*&amp;\\&amp;&x;\\a", "*&&amp;&x;\\a")
        self.target("&#32;a&NewLine;", " a\n")
        self.target("<&lt;\\&lt;>", "<&lt;")
        self.target("a&Tab;b 'c&Tab;'", "a\tb", "c\t")
        self.target("&rpar;", ")")

    def test_what_stands_ahead(self):
        self.texts("[c] (a)", "c](a)", "(a)", "[c]( a", "[c](a", "[c](")
        self.told("[c\\](a)", t("[c](a)"))
        self.told("\\[c](a)", t("[c](a)"))
        self.told("[c]\n(a)", t("[c]"), SOFT, t("(a)"))
        self.texts("[c]a)", "[c])", "[c]/(a)", "[c]{a)", "[c]")

    def test_in_a_line(self):
        self.told("x [c](a) y [d](b) z", t("x "), link("a", t("c")), t(" y "), link("b", t("d")), t(" z"))
        self.told("[c](a)[d](b)", link("a", t("c")), link("b", t("d")))

    def test_marks_in_targets(self):
        self.told("*[c](*)", t("*"), link("*", t("c")))
        self.told("*[c](a*)", t("*"), link("a*", t("c")))
        self.told("[c](`a`)", link("`a`", t("c")))
        self.told("`[c](a`)", c("[c](a"), t(")"))
        self.told("[c](<b> 'd')", link("b", t("c"), title="d"))
        self.told("[c](a 'b)`'`)", t("[c](a 'b)"), c("'"), t(")"))


class Contents(Told):
    def test_contents(self):
        self.told("[](c)", link("c"))
        self.told("![](c)", image("c"))
        self.told("[ ](c)", link("c", t(" ")))
        self.told("[*d* `e` <f>](c)", link("c", em(t("d")), t(" "), c("e"), t(" "), raw("<f>")))
        self.told("[d\n**e**\\\nf](c)", link("c", t("d"), SOFT, strong(t("e")), HARD, t("f")))
        self.told("![*d* `e` <f>](c)", image("c", em(t("d")), t(" "), c("e"), t(" "), raw("<f>")))
        self.told("[\\]\\[](c)", link("c", t("][")))
        self.told("[`]`](c)", link("c", c("]")))
        self.told("[<f g=']'>](c)", link("c", raw("<f g=']'>")))

    def test_brackets_in_contents(self):
        self.told("[[]](c)", link("c", t("[]")))
        self.told("[[x]](c)", link("c", t("[x]")))
        self.told("[x](c)](d)", link("c", t("x")), t("](d)"))
        self.told("[[x](c)", t("["), link("c", t("x")))
        self.told("[x [y] z](c)", link("c", t("x [y] z")))
        self.told("[x ] y](c)", t("[x ] y](c)"))
        self.told("]", t("]"))
        self.told("][x](c)", t("]"), link("c", t("x")))

    def test_runs_are_paired_within(self):
        self.told("*[x*](c)", t("*"), link("c", t("x*")))
        self.told("[*x](c)*", link("c", t("*x")), t("*"))
        self.told("*x [*y](c) z*", em(t("x "), link("c", t("*y")), t(" z")))
        self.told("*[x](c)*", em(link("c", t("x"))))
        self.told("**x [*y*](c)**", strong(t("x "), link("c", em(t("y")))))
        self.told("*x [y* z](c)", t("*x "), link("c", t("y* z")))
        self.told("*x [y* z](c d)", em(t("x [y")), t(" z](c d)"))
        self.told("[*x [y](c)*](d)", t("["), em(t("x "), link("c", t("y"))), t("](d)"))
        self.told("_![_x](c)_", em(image("c", t("_x"))))

    def test_a_link_in_a_link(self):
        self.told("[x [y](c) z](d)", t("[x "), link("c", t("y")), t(" z](d)"))
        self.told("[[[x](c)](d)](e)", t("[["), link("c", t("x")), t("](d)](e)"))
        self.told("[x [y](c) z][a]", t("[x "), link("c", t("y")), t(" z]"), known("a", t("a")))
        self.told("[x *[y](c)* z](d)", t("[x "), em(link("c", t("y"))), t(" z](d)"))
        self.told("[x](c) [y](d)", link("c", t("x")), t(" "), link("d", t("y")))
        self.told("[x [y](c)] [z](d)", t("[x "), link("c", t("y")), t("] "), link("d", t("z")))

    def test_an_image_in_a_link(self):
        self.told("[![x](c)](d)", link("d", image("c", t("x"))))
        self.told("[x ![y](c) z](d)", link("d", t("x "), image("c", t("y")), t(" z")))
        self.told("[![a]][b]", known("b", known("a", t("a"), make=image)))

    def test_a_link_in_an_image(self):
        self.told("![[x](c)](d)", image("d", link("c", t("x"))))
        self.told("![x [y](c) z](d)", image("d", t("x "), link("c", t("y")), t(" z")))
        self.told("[![[x](c)](d)](e)", t("["), image("d", link("c", t("x"))), t("](e)"))
        self.told("![![x](c)](d)", image("d", image("c", t("x"))))
        self.told("![[![x](c)](d)](e)", image("e", link("d", image("c", t("x")))))

    def test_exclamation_marks(self):
        self.told("!", t("!"))
        self.told("!![x](c)", t("!"), image("c", t("x")))
        self.told("! [x](c)", t("! "), link("c", t("x")))
        self.told("\\![x](c)", t("!"), link("c", t("x")))
        self.told("!\\[x](c)", t("![x](c)"))
        self.told("![x", t("![x"))
        self.told("![x]", t("![x]"))
        self.told("&excl;[x](c)", t("!"), link("c", t("x")))
        self.told("[!](c)", link("c", t("!")))

    def test_brackets_that_become_no_link(self):
        self.texts("[", "![", "]", "[]", "![]", "[x]", "[[x]", "[x]]", "[x](", "[x][]", "[x][y]", "[x", "x]", "[[[", "]]]", "[![]")


class Labels(Told):
    def test_label_behind(self):
        self.told("[x][a]", known("a", t("x")))
        self.told("![x][a]", known("a", t("x"), make=image))
        self.told("[x][b]", known("b", t("x")))
        self.told("[][a]", known("a"))
        self.told("[*x*][a]", known("a", em(t("x"))))
        self.told("[x][a]y", known("a", t("x")), t("y"))
        self.told("[a][b]", known("b", t("a")))

    def test_labels_are_normalised(self):
        for label in ("A", " a", "a ", "\ta\n", " A "):
            self.told(f"[x][{label}]", known("a", t("x")))
            self.assertEqual(inlines(f"[{label}]", KNOWN)[0][:3], ("link", "/u", "t"))
        for label in ("a b", "A B", "a\nb", "a \t\n b", " a  b "):
            self.told(f"[x][{label}]", known("a b", t("x")))
        self.texts("[x][ab]", "[ab]")
        self.told("[x][*]", known("*", t("x")))
        self.told("[x][\\]]", known("\\]", t("x")))

    def test_a_label_that_is_not_defined(self):
        self.texts("[x][y]", "[x][y][z]")
        self.told("[a][y]", t("[a][y]"))
        self.told("![a][y]", t("![a][y]"))
        self.told("[a][y][b]", t("[a]"), known("b", t("y")))
        self.told("[y][a][z]", known("a", t("y")), t("[z]"))

    def test_what_is_no_label_behind(self):
        self.told("[a][ ]", known("a", t("a")), t("[ ]"))
        self.told("[a][\n]", known("a", t("a")), t("["), SOFT, t("]"))
        self.told("[a][y", known("a", t("a")), t("[y"))
        self.told("[a][[b]]", known("a", t("a")), t("["), known("b", t("b")), t("]"))
        self.told("[a] [b]", known("a", t("a")), t(" "), known("b", t("b")))
        self.told("[a]\n[b]", known("a", t("a")), SOFT, known("b", t("b")))
        self.told("[a][" + "y" * 1000 + "]", known("a", t("a")), t("[" + "y" * 1000 + "]"))
        self.told("[a][" + "y" * 999 + "]", t("[a][" + "y" * 999 + "]"))
        self.told("[a][b\\]", known("a", t("a")), t("[b]"))

    def test_empty_label_behind(self):
        self.told("[a][]", known("a", t("a")))
        self.told("![a][]", known("a", t("a"), make=image))
        self.told("[A][]b", known("a", t("A")), t("b"))
        self.texts("[x][]", "![x][]", "[][]", "[ ][]")
        self.told("[a][][]", known("a", t("a")), t("[]"))

    def test_nothing_behind(self):
        self.told("[a]", known("a", t("a")))
        self.told("![a]", known("a", t("a"), make=image))
        self.told("[a]: x", known("a", t("a")), t(": x"))
        self.told("[a]b", known("a", t("a")), t("b"))
        self.told("[*]", known("*", t("*")))
        self.told("[\\]]", known("\\]", t("]")))
        self.told("[a\nb]", known("a b", t("a"), SOFT, t("b")))
        self.told("[a  \nb]", known("a b", t("a"), HARD, t("b")))
        self.told("[a&#32;b]", t("[a b]"))
        self.told("![!]", known("!", t("!"), make=image))
        self.told("[*a*]", t("["), em(t("a")), t("]"))

    def test_a_target_that_does_not_fit(self):
        self.told("[a](b c)", known("a", t("a")), t("(b c)"))
        self.told("[a](", known("a", t("a")), t("("))
        self.told("[a](<b)", known("a", t("a")), t("(<b)"))
        self.told("[x](b c)", t("[x](b c)"))
        self.told("[a](b)", link("b", t("a")))
        self.told("[a] (b)", known("a", t("a")), t(" (b)"))

    def test_brackets_noted_behind(self):
        self.texts("[[]]", "[[x] a]")
        self.told("[a [b]]", t("[a "), known("b", t("b")), t("]"))
        self.told("[![x] a]", t("[![x] a]"))
        self.told("[[]a]", t("[[]a]"))
        self.told("[[a]", t("["), known("a", t("a")))
        self.told("[[x]][a]", known("a", t("[x]")))
        self.told("[[x]a](c)", link("c", t("[x]a")))
        self.told("[\\[a]", t("[[a]"))
        self.told("[a![]", t("[a![]"))
        self.told("[a]]", known("a", t("a")), t("]"))
        self.told("[![a](c)]", t("["), image("c", t("a")), t("]"))

    def test_brackets_that_are_not_noted(self):
        self.told("[`[` a]", t("["), c("["), t(" a]"))
        self.told("[x](c[d) [a]", link("c[d", t("x")), t(" "), known("a", t("a")))

    def test_brackets_that_end_no_label(self):
        known = {"`": ("/u", None), "<b c='": ("/u", None), "a": ("/v", None)}
        self.assertEqual(inlines("[`]`]", known), (t("["), c("]"), t("]")))
        self.assertEqual(inlines("[`]`][]", known), (t("["), c("]"), t("][]")))
        self.assertEqual(inlines("[<b c=']'>]", known), (t("["), raw("<b c=']'>"), t("]")))
        self.assertEqual(inlines("[`]`][a]", known), (link("/v", c("]")),))

    def test_links_in_links(self):
        self.told("[[a] x](c)", t("["), known("a", t("a")), t(" x](c)"))
        self.told("[[a]][b]", t("["), known("a", t("a")), t("]"), known("b", t("b")))
        self.told("[x [y][a] z][b]", t("[x "), known("a", t("y")), t(" z]"), known("b", t("b")))
        self.told("![[a]][b]", known("b", known("a", t("a")), make=image))
        self.told("[[a][b][a]](c)", t("["), known("b", t("a")), known("a", t("a")), t("](c)"))

    def test_runs_and_labels(self):
        self.told("*[a*]", em(t("[a")), t("]"))
        self.told("[*a][a]*", known("a", t("*a")), t("*"))
        self.told("*[a]*", em(known("a", t("a"))))


class Many(Told):
    def test_many_brackets(self):
        for content in ("[" * 5000, "]" * 5000, "![" * 3000, "[" * 3000 + "]" * 3000, "[x](" * 2000, "[x](c)" * 2000, "[[x](c)" * 1000,
                        "[x][" * 2000, "[x]" * 2000, "[x](<" * 2000, "[x](c '" * 1500, "![" * 40 + "](c)" * 1000):
            self.assertEqual(type(inlines(content)), tuple)

    def test_long_labels(self):
        label = "x" * 999
        self.assertEqual(inlines(f"[{label}]", {label: ("/u", None)}), (link("/u", t(label)),))
        self.assertEqual(inlines(f"[{label}x]", {label: ("/u", None)}), (t(f"[{label}x]"),))
        self.assertEqual(inlines(f"[y][{label}]", {label: ("/u", None)}), (link("/u", t("y")),))


if __name__ == "__main__":
    unittest.main()
