"""Destinations and titles, as definitions have them."""

import itertools
import re
import unittest

from plainmark.definitions import definition_at

PUNCTUATION = "!\"#$&'()*+,-./:;<=>?@[\\]^_`{|}~"
ALLOWED = "\t\n" + "".join(chr(code) for code in range(32, 127) if code != 37)

ESCAPED = r"\\[!-/:-@\[-`{-~]"
BARE = rf"(?:{ESCAPED}|[^ \t\n()])"
for _ in range(4):
    BARE_ROW = rf"{BARE}*+"
    BARE = rf"(?:{ESCAPED}|\({BARE_ROW}\)|[^ \t\n()])"
DESTINATION = re.compile(rf"<(?:{ESCAPED}|[^<>\n])*+>|(?!<){BARE}++(?=[ \t\n)]|\Z)")
TITLE = re.compile(rf'"(?:{ESCAPED}|[^"])*+"|' rf"'(?:{ESCAPED}|[^'])*+'|" rf"\((?:{ESCAPED}|[^()])*+\)")


def decode(text):
    return re.sub(r"\\([!-/:-@\[-`{-~])", r"\1", text)


class Destinations(unittest.TestCase):
    def stands(self, written, told):
        """It stands alone, and with a title or lines behind it."""
        for behind in ("", " ", "\n", " 't'", "\n't'\nx"):
            title = "t" if "t" in behind else None
            found = definition_at("[a]:" + written + behind, 0)
            self.assertIsNotNone(found, written + behind)
            self.assertEqual(found[1:], ("a", told, title), written + behind)

    def same(self, *texts):
        for text in texts:
            self.stands(text, text)

    def none(self, *texts):
        for text in texts:
            for behind in ("", " ", "\n", " 't'", "\nx"):
                self.assertIsNone(definition_at("[a]:" + text + behind, 0), text + behind)

    def test_in_angle_brackets(self):
        self.stands("<b>", "b")
        self.stands("<>", "")
        self.stands("< >", " ")
        self.stands("<b c>", "b c")
        self.stands("< b\tc >", " b\tc ")
        self.stands("<'t'>", "'t'")
        self.stands("<b 't'>", "b 't'")
        self.stands("<(>", "(")
        self.stands("<)>", ")")
        self.stands("<b)(>", "b)(")
        self.stands("<" + "(" * 40 + ">", "(" * 40)

    def test_each_sign_in_angle_brackets(self):
        for sign in ALLOWED:
            if sign not in "<>\n":
                self.stands("<" + sign + "a>", sign + "a")
                if sign != "\\":
                    self.stands("<" + sign + ">", sign)

    def test_signs_that_do_not_stand_in_angle_brackets(self):
        self.none("<", "<b", "<b c", "<\n>", "<b\nc>", "<b\n>", "<\nb>", "<<>", "<b<c>", "<b<>", "<<b>", "<b<c>>",
                  "<b>>", "<b>c>", "<>>", "<b>c", "<>b", "<b\\\nc>")

    def test_backslashes_in_angle_brackets(self):
        self.stands("<\\>>", ">")
        self.stands("<\\<>", "<")
        self.stands("<b\\>c>", "b>c")
        self.stands("<b\\<c>", "b<c")
        self.stands("<\\<\\>>", "<>")
        self.stands("<\\\\>", "\\")
        self.stands("<\\\\\\>>", "\\>")
        self.stands("<b\\c>", "b\\c")
        self.stands("<\\ >", "\\ ")
        self.none("<\\>", "<b\\>", "<\\\\\\>", "<\\\\>>", "<\\\\<>", "<b\\\\>c>")
        for sign in PUNCTUATION:
            self.stands("<b\\" + sign + "c>", "b" + sign + "c")

    def test_references_in_angle_brackets(self):
        self.stands("<&amp;>", "&")
        self.stands("<&lt;&gt;>", "<>")
        self.stands("<&NewLine;>", "\n")
        self.stands("<\\&lt;>", "&lt;")
        self.stands("<\\\\&lt;>", "\\<")
        self.stands("<&amp;lt;>", "&lt;")
        self.stands("<&#65;&nbsp;>", "A&nbsp;")

    def test_without_angle_brackets(self):
        self.same("b", "/u", "http://a.b/c?d=e&f=g#h", "b<c", "b>c", "b<", "b>", ">", "b<c>", "[", "]", "[b]", ":",
                  "'", '"', "'t'", '"t"', "b'c", "&", "&amp", "*", "`", "b'", "'b", "#", "!", "=", "a:b", "\\", "\\a",
                  "b\\", "1", "~")

    def test_each_sign_without_angle_brackets(self):
        for sign in ALLOWED:
            if sign not in " \t\n()<":
                self.same(sign, "b" + sign, "b" + sign + "c", sign + "b")
            if sign in "<()":
                self.none(sign, sign + "b")
        self.same("b<")
        self.none("b(", "b)", "b(c", "b)c")

    def test_nothing_and_white(self):
        self.assertIsNone(definition_at("[a]:", 0))
        for white in (" ", "\t", "\n", "\n\n", " \n \n", "\n\nb", " \n\n b"):
            self.assertIsNone(definition_at("[a]:" + white, 0))
        for white in " \t":
            self.assertIsNone(definition_at("[a]:b" + white + "c", 0))

    def test_brackets(self):
        self.same("()", "(b)", "b()", "b(c)", "b(c)d", "(b)(c)", "(b(c)d)", "((()))", "()()", "(b)c(d)", "(<)", "(')",
                  "(\"b\")", "b(<c>)")
        self.none("(", ")", "(b", "b)", "b(c", "b)c", "(()", "())", ")(", "b)(c", "(b))", "((b)", "(b)c)", "(b)(",
                  "()()(", "(b c)", "(b", "b(c d)", "( )", "(\n)", "((c d))", "b( 't')", "(b\t)", "(b\n)")

    def test_brackets_behind_backslashes(self):
        self.stands("\\(", "(")
        self.stands("\\)", ")")
        self.stands("b\\(c", "b(c")
        self.stands("b\\)c", "b)c")
        self.stands("\\)\\(", ")(")
        self.stands("(\\()", "(()")
        self.stands("(\\))", "())")
        self.stands("(b\\)c)", "(b)c)")
        self.stands("\\\\()", "\\()")
        self.stands("(\\\\)", "(\\)")
        self.stands("\\\\\\(", "\\(")
        self.none("(\\)", "\\(b)", "(b\\)", "\\\\(", "\\\\)", "(\\\\\\)", "\\()", "(\\(", "\\)(")

    def test_many_brackets(self):
        for many in (1, 2, 31, 32):
            self.same("(" * many + ")" * many, "b" + "(" * many + "c" + ")" * many + "d",
                      "(" * many + ")" * (many - 1) + "(" + ")" * 2,
                      "(" * many + ")" * many + "(" * many + ")" * many, "()" * (2 * many))
            self.none("(" * many, "(" * many + ")" * (many - 1), "(" * many + ")" * (many + 1))
        for many in (33, 34, 50, 99):
            self.none("(" * many + ")" * many, "b" + "(" * many + "c" + ")" * many, "(" * many,
                      "()" + "(" * many + ")" * many, "(" * many + ")" * (many - 1))
            self.same("()" * many, "(" + "()" * many + ")")
        self.stands("(" * 32 + "\\(" + ")" * 32, "(" * 33 + ")" * 32)
        self.stands("\\(" * 40, "(" * 40)
        self.none("(" * 33 + " " + ")" * 33)

    def test_backslashes_and_references(self):
        self.stands("\\*", "*")
        self.stands("b\\*c", "b*c")
        self.stands("\\<b>", "<b>")
        self.stands("\\<", "<")
        self.stands("&lt;b>", "<b>")
        self.stands("&amp;", "&")
        self.stands("b&amp;lt;c", "b&lt;c")
        self.stands("\\&amp;", "&amp;")
        self.stands("&#32;&Tab;&#x28;&rpar;", " \t()")
        self.stands("&lpar;", "(")
        self.stands("&NewLine;b", "\nb")
        self.stands("\\\\", "\\")
        self.stands("\\\\\\", "\\\\")
        for sign in PUNCTUATION:
            self.stands("\\" + sign, sign)
            self.stands("b\\" + sign + "c", "b" + sign + "c")
        for sign in "aZ09":
            self.same("\\" + sign, "b\\" + sign)

    def test_a_backslash_ahead_of_white(self):
        self.stands("b\\", "b\\")
        self.assertEqual(definition_at("[a]:b\\ 'c'", 0), (10, "a", "b\\", "c"))
        self.assertIsNone(definition_at("[a]:b\\ c", 0))
        self.assertEqual(definition_at("[a]:b\\\nc", 0), (7, "a", "b\\", None))

    def test_it_goes_as_far_as_it_can(self):
        self.assertEqual(definition_at("[a]: b'c'", 0), (9, "a", "b'c'", None))
        self.assertEqual(definition_at("[a]: b(c)", 0), (9, "a", "b(c)", None))
        self.assertEqual(definition_at("[a]: b>'c'", 0), (10, "a", "b>'c'", None))
        self.assertIsNone(definition_at("[a]: b)'c'", 0))
        self.assertIsNone(definition_at("[a]: b) 'c'", 0))

    def test_all_short_texts(self):
        line = re.compile(rf" *({DESTINATION.pattern})(?: +({TITLE.pattern}))? *")
        for many in range(7):
            for signs in itertools.product("<>()\\b ", repeat=many):
                text = "".join(signs)
                found = line.fullmatch(text)
                wanted = None
                if found:
                    target, title = found.groups()
                    target = target[1:-1] if target.startswith("<") else target
                    wanted = (4 + len(text), "a", decode(target), title and decode(title[1:-1]))
                self.assertEqual(definition_at("[a]:" + text, 0), wanted, text)


class Titles(unittest.TestCase):
    def stands(self, written, told):
        for ahead, behind in itertools.product((" ", "\t", "\n", " \n\t"), ("", " ", "\t ", "\n", " \nx", "\n\n")):
            text = "[a]: b" + ahead + written + behind
            end = len("[a]: b" + ahead + written) + len(behind.partition("\n")[0]) + ("\n" in behind)
            self.assertEqual(definition_at(text, 0), (end, "a", "b", told), text)

    def same(self, opening, closing, *texts):
        for text in texts:
            self.stands(opening + text + closing, text)

    def none(self, *texts):
        """In the line of the destination nothing fits, in the next one the title is none."""
        for text in texts:
            for behind in ("", " ", "\n", "\nx"):
                self.assertIsNone(definition_at("[a]: b " + text + behind, 0), text)
                self.assertEqual(definition_at("[a]: b\n" + text + behind, 0), (7, "a", "b", None), text)

    def test_titles_of_each_sort(self):
        for opening, closing in ('""', "''", "()"):
            self.same(opening, closing, "", " ", "t", "a b", " a ", "a\nb", "\n", "\n\n", "a\n\nb", "\n \n", "\t",
                      "<b>", "[a]: b", "`", "\\a", "\\ ", "\\\nb", "a" * 500)

    def test_the_signs_of_the_other_sorts(self):
        self.same('"', '"', "'", "''", "(", ")", "()", "'a'", "(a)", "a'b", ")(")
        self.same("'", "'", '"', '""', "(", ")", "()", '"a"', "(a)", 'a"b', ")(")
        self.same("(", ")", '"', '""', "'", "''", '"a"', "'a'", "a'b")

    def test_each_sign(self):
        for opening, closing in ('""', "''", "()"):
            for sign in ALLOWED:
                if sign not in (opening, closing, "\\"):
                    self.same(opening, closing, sign, "a" + sign, sign + "a", sign + sign)
            for sign in PUNCTUATION:
                self.stands(opening + "\\" + sign + closing, sign)
                self.stands(opening + "a\\" + sign + "b" + closing, "a" + sign + "b")

    def test_closing_signs_behind_backslashes(self):
        for opening, closing in ('""', "''", "()"):
            self.stands(opening + "\\" + closing + closing, closing)
            self.stands(opening + "a\\" + closing + "b" + closing, "a" + closing + "b")
            self.stands(opening + "\\\\" + closing, "\\")
            self.stands(opening + "\\\\\\" + closing + closing, "\\" + closing)
            self.none(opening + "\\" + closing, opening + "\\\\\\" + closing, opening + "\\\\" + closing + closing,
                      opening + "a\\" + closing)

    def test_closing_signs_within(self):
        for opening, closing in ('""', "''", "()"):
            self.none(opening + "a" + closing + "b" + closing, opening + closing + closing,
                      opening + "a" + closing + closing)

    def test_opening_bracket_in_brackets(self):
        self.none("(()", "(a(b)", "(a(b)c)", "(())", "((", "(\\\\()", "(a(", "((a))")
        self.stands("(\\()", "(")
        self.stands("(a\\(b)", "a(b")
        self.stands("(\\(\\))", "()")
        self.stands("(\\\\\\()", "\\(")

    def test_titles_that_do_not_end(self):
        self.none('"', "'", "(", '"a', "'a", "(a", '"a\'', "'a\"", "(a'", '"a)', "\"\\\"", "(a(", "'a\\'")

    def test_what_is_no_title(self):
        self.none("t", ")", ")a(", "[a]", "<a>", "`a`", "{a}", "a'b'", "\\'a'", "\\(a)", "&quot;a&quot;", "*", "-", "/")

    def test_backslashes_and_references(self):
        for opening, closing in ('""', "''", "()"):
            self.stands(opening + "&amp;" + closing, "&")
            self.stands(opening + "\\&amp;" + closing, "&amp;")
            self.stands(opening + "\\\\&amp;" + closing, "\\&")
            self.stands(opening + "&amp;lt;" + closing, "&lt;")
            self.stands(opening + "&quot;&apos;&lpar;&rpar;" + closing, "\"'()")
            self.stands(opening + "&#65;&#x42;&nbsp;" + closing, "AB&nbsp;")
            self.stands(opening + "a&NewLine;b&Tab;" + closing, "a\nb\t")

    def test_all_short_titles(self):
        for sign in "\"'(":
            closing = {"(": ")"}.get(sign, sign)
            for many in range(6):
                for signs in itertools.product(sign + closing + "\\a \n", repeat=many):
                    self.one_short_title(sign + "".join(signs))

    def one_short_title(self, text):
        same_line, next_line = None, (7, "a", "", None)
        found = TITLE.match(text)
        tail = found and re.compile("[ ]*(?:\n|\\Z)").match(text, found.end())
        if tail:
            same_line = next_line = (7 + tail.end(), "a", "", decode(found[0][1:-1]))
        self.assertEqual(definition_at("[a]:<> " + text, 0), same_line, text)
        self.assertEqual(definition_at("[a]:<>\n" + text, 0), next_line, text)


if __name__ == "__main__":
    unittest.main()
