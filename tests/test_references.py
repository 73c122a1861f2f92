import itertools
import re
import unittest

from plainmark.references import decoded, reference_at

# 1b.8, as it stands there.
NAMES = {"amp": "&", "lt": "<", "gt": ">", "quot": '"', "apos": "'", "num": "#", "ast": "*",
         "lowbar": "_", "grave": "`", "lsqb": "[", "rsqb": "]", "lpar": "(", "rpar": ")",
         "lcub": "{", "rcub": "}", "bsol": "\\", "excl": "!", "Tab": "\t", "NewLine": "\n"}
LETTERS = "abcdefghijklmnopqrstuvwxyzABCDEFGHIJKLMNOPQRSTUVWXYZ"
ALLOWED = "\t\n" + "".join(chr(code) for code in range(32, 127) if code != 37)
PUNCTUATION = [sign for sign in ALLOWED if re.fullmatch("[!-~]", sign) and not sign.isalnum()]

AHEAD = ("", "a", "&", "&amp", "&amp;", "&#", "\\", "a b\n", ";", "&&")
BEHIND = ("", ";", "a", " ", "\n", "&", "&amp;", "amp;", "12;", "\\")


def cases(name):
    """A name with each of its letters in the other case, and all of it in either case."""
    found = [name.lower(), name.upper(), name.swapcase(), name.capitalize()]
    found += [name[:at] + name[at].swapcase() + name[at + 1:] for at in range(len(name))]
    return found


class References(unittest.TestCase):
    def stands(self, sign, *references):
        for reference in references:
            for ahead, behind in itertools.product(AHEAD, BEHIND):
                self.assertEqual(reference_at(ahead + reference + behind, len(ahead)),
                                 (len(ahead) + len(reference), sign), (ahead, reference, behind))

    def none(self, *texts):
        for text in texts:
            for ahead in AHEAD:
                self.assertIsNone(reference_at(ahead + text, len(ahead)), (ahead, text))

    def test_names(self):
        for name, sign in NAMES.items():
            self.stands(sign, "&" + name + ";")

    def test_names_with_letters_of_the_other_case(self):
        for name in NAMES:
            for other in cases(name):
                if other not in NAMES:
                    self.none("&" + other + ";")
        self.none("&AMP;", "&Amp;", "&tab;", "&TAB;", "&newline;", "&Newline;", "&newLine;", "&NEWLINE;")

    def test_names_without_the_signs_around_them(self):
        for name in NAMES:
            self.none(name + ";", "&" + name, "&" + name + " ;", "& " + name + ";", "&" + name + ":",
                      "&" + name + " x;", "&" + name + "\n;", "\\" + name + ";", "&" + name + "&;",
                      "&&" + name + ";", "&#" + name + ";", "&;" + name + ";", "&" + name + "#;")

    def test_names_with_a_letter_more_or_fewer(self):
        for name in NAMES:
            fewer = [name[:at] + name[at + 1:] for at in range(len(name))]
            more = [name[:at] + letter + name[at:] for at in range(len(name) + 1) for letter in LETTERS]
            for other in fewer + more:
                if other not in NAMES:
                    self.none("&" + other + ";")

    def test_other_names(self):
        self.none("&;", "&nbsp;", "&copy;", "&auml;", "&percnt;", "&comma;", "&period;", "&a;", "&ampamp;",
                  "&sol;", "&dollar;", "&plus;", "&equals;", "&lbrack;", "&lbrace;", "&UnderBar;",
                  "&verbar;", "&Hat;", "&LT;", "&GT;", "&QUOT;", "&midast;", "&amp,lt;", "&amp1;", "& ;")

    def test_numbers(self):
        for number in range(141):
            numbers = (f"&#{number};", f"&#{number:03};", f"&#{number:07};", f"&#x{number:x};", f"&#X{number:x};",
                       f"&#x{number:X};", f"&#X{number:X};", f"&#x{number:06x};", f"&#X{number:06X};")
            if number in (9, 10) or 32 <= number <= 126 and number != 37:
                self.stands(chr(number), *numbers)
            else:
                self.none(*numbers)

    def test_numbers_that_are_greater(self):
        self.none("&#141;", "&#160;", "&#255;", "&#256;", "&#288;", "&#321;", "&#1000;", "&#9999999;", "&#65536;",
                  "&#1114111;", "&#1114112;", "&#xa0;", "&#x100;", "&#x120;", "&#x141;", "&#xffff;",
                  "&#x10ffff;", "&#x110000;", "&#xffffff;", "&#xFFFFFF;", "&#x10041;", "&#0000;")

    def test_digits_from_one_to_the_most(self):
        for many in range(7):
            self.stands("\t", "&#" + "0" * many + "9;")
        for many in range(6):
            self.stands("A", "&#" + "0" * many + "65;")
        for many in range(5):
            self.stands("Z", "&#x" + "0" * many + "5a;", "&#X" + "0" * many + "5A;")
        for many in range(6):
            self.stands("\n", "&#x" + "0" * many + "a;", "&#x" + "0" * many + "A;")

    def test_more_digits(self):
        self.none("&#00000009;", "&#00000065;", "&#000000065;", "&#0000000000000065;", "&#x000000a;",
                  "&#X000000A;", "&#x0000041;", "&#X0000041;", "&#x000000000041;", "&#12345678;", "&#x1234567;")

    def test_no_digit(self):
        self.none("&#;", "&#x;", "&#X;", "&#", "&#x", "&#X", "&", "", "&#a;", "&#A;", "&#xg;", "&#XG;", "&#xx41;",
                  "&#xX41;", "&# ;", "&#x ;")

    def test_numbers_with_a_wrong_sign(self):
        for sign in ALLOWED:
            if not re.fullmatch("[0-9;]", sign):
                self.none("&#6" + sign + "5;")
            if not re.fullmatch("[0-9xX]", sign):
                self.none("&#" + sign + "65;")
            if not re.fullmatch("[0-9a-fA-F;]", sign):
                self.none("&#x4" + sign + "1;", "&#X4" + sign + "1;", "&#x" + sign + "41;", "&#x4" + sign + ";")

    def test_numbers_without_the_signs_around_them(self):
        self.none("&#65", "&#x41", "&#65 ;", "&#x41 ;", "&#65:", "#65;", "&65;", "&x41;", "& #65;", "&# 65;",
                  "&# x41;", "&#x 41;", "&#+65;", "&#-65;", "&#x+41;", "&#6_5;", "&#x4_1;", "&#0x41;", "&#x0x4;",
                  "&#65.;", "&##65;", "&#\n65;", "&#65\n;", "&#x&#65;")

    def test_letters_of_the_numbers(self):
        self.stands("J", "&#x4a;", "&#x4A;", "&#X4a;", "&#X4A;")
        self.stands("o", "&#x6f;", "&#x6F;", "&#X6f;", "&#X6F;")
        for digit in "abcdefABCDEF":
            self.stands(chr(0x40 + int(digit, 16)), "&#x4" + digit + ";", "&#X4" + digit + ";")

    def test_places_at_which_none_begins(self):
        for reference in ("&amp;", "&#65;", "&#x41;", "&NewLine;"):
            text = "a" + reference + "b"
            for place in range(len(text) + 1):
                if place != 1:
                    self.assertIsNone(reference_at(text, place), (text, place))
        self.assertIsNone(reference_at("&amp;", 5))
        self.assertIsNone(reference_at("", 0))
        self.assertIsNone(reference_at("a", 1))

    def test_arguments_by_name(self):
        self.assertEqual(reference_at(place=1, text="a&lt;b"), (5, "<"))
        self.assertEqual(reference_at("a&lt;b", place=1), (5, "<"))

    def test_kind_of_what_is_returned(self):
        told = reference_at("&lt;", 0)
        self.assertEqual([type(told), type(told[0]), type(told[1])], [tuple, int, str])

    def test_a_text_of_many_signs(self):
        text = "&" * 20000
        self.assertTrue(all(reference_at(text, place) is None for place in range(0, len(text), 7)))

    def test_short_texts_against_a_regular_expression(self):
        pattern = re.compile(
            "&(?:(" + "|".join(NAMES) + ")|#([0-9]{1,7})|#[xX]([0-9a-fA-F]{1,6}));")
        for signs in itertools.product(("&", "#", "x", "4", "12", "a", ";", "lt", "X"), repeat=5):
            text = "".join(signs)
            for place in range(len(text) + 1):
                found = pattern.match(text, place)
                wanted = None
                if found:
                    name, figures, digits = found.groups()
                    number = int(figures or "0") or int(digits or "0", 16)
                    sign = NAMES[name] if name else chr(number)
                    if sign in ALLOWED:
                        wanted = (found.end(), sign)
                self.assertEqual(reference_at(text, place), wanted, (text, place))


class Decoded(unittest.TestCase):
    def test_nothing_to_decode(self):
        for text in ("", "a", "a b", "a\nb\n", "\t", "\n", " ", "&", "&&", "&amp", "amp;", "&;", ";", "a&b;c",
                     "http://a.b/?c=d&e=f;g", "&nbsp;", "&#0;", "&#37;", "&#x25;", "&#128;", "&LT;",
                     "".join(sign for sign in ALLOWED if sign != "\\")):
            self.assertEqual(decoded(text), text)

    def test_punctuation_behind_a_backslash(self):
        self.assertEqual(len(PUNCTUATION), 31)
        for sign in PUNCTUATION:
            self.assertEqual(decoded("\\" + sign), sign)
            self.assertEqual(decoded("a\\" + sign + "b"), "a" + sign + "b")
            self.assertEqual(decoded("\\" + sign + "\\" + sign), sign + sign)

    def test_other_signs_behind_a_backslash(self):
        for sign in LETTERS + "0123456789 \t\n":
            for text in ("\\" + sign, "a\\" + sign + "b", "\\" + sign + "\\" + sign):
                self.assertEqual(decoded(text), text)

    def test_a_backslash_at_the_end(self):
        self.assertEqual(decoded("\\"), "\\")
        self.assertEqual(decoded("a\\"), "a\\")
        self.assertEqual(decoded("\\*\\"), "*\\")
        self.assertEqual(decoded("&amp;\\"), "&\\")

    def test_rows_of_backslashes(self):
        for many in range(9):
            left = "\\" * (many // 2)
            self.assertEqual(decoded("\\" * many), left + "\\" * (many % 2))
            self.assertEqual(decoded("\\" * many + "a"), left + "\\" * (many % 2) + "a")
            self.assertEqual(decoded("\\" * many + "*"), left + "*")
            self.assertEqual(decoded("\\" * many + "\n"), left + "\\" * (many % 2) + "\n")

    def test_backslashes_ahead_of_a_reference(self):
        self.assertEqual(decoded("\\&lt;"), "&lt;")
        self.assertEqual(decoded("\\\\&lt;"), "\\<")
        self.assertEqual(decoded("\\\\\\&lt;"), "\\&lt;")
        self.assertEqual(decoded("\\\\\\\\&lt;"), "\\\\<")
        self.assertEqual(decoded("\\&#65;\\&#x41;"), "&#65;&#x41;")
        self.assertEqual(decoded("\\&&lt;"), "&<")

    def test_backslashes_within_a_reference(self):
        self.assertEqual(decoded("&\\lt;"), "&\\lt;")
        self.assertEqual(decoded("&lt\\;"), "&lt;")
        self.assertEqual(decoded("&\\#65;"), "&#65;")
        self.assertEqual(decoded("&#\\65;"), "&#\\65;")
        self.assertEqual(decoded("&#65\\;"), "&#65;")

    def test_references(self):
        for name, sign in NAMES.items():
            self.assertEqual(decoded("&" + name + ";"), sign)
            self.assertEqual(decoded("a&" + name + ";b"), "a" + sign + "b")
        self.assertEqual(decoded("&#65;&#x42;&#X43;"), "ABC")
        self.assertEqual(decoded("&#9;&#10;&#32;"), "\t\n ")
        self.assertEqual(decoded("&lt;&gt;&lt;;"), "<><;")
        self.assertEqual(decoded("&lt;&nbsp;&gt"), "<&nbsp;&gt")

    def test_it_is_done_once(self):
        self.assertEqual(decoded("&amp;lt;"), "&lt;")
        self.assertEqual(decoded("&amp;amp;lt;"), "&amp;lt;")
        self.assertEqual(decoded("&amp;&lt;"), "&<")
        self.assertEqual(decoded("&&lt;lt;"), "&<lt;")
        self.assertEqual(decoded("&#38;lt;"), "&lt;")
        self.assertEqual(decoded("&#38;#65;"), "&#65;")
        self.assertEqual(decoded("&#&num;65;"), "&##65;")
        self.assertEqual(decoded("&bsol;*"), "\\*")
        self.assertEqual(decoded("&bsol;&ast;"), "\\*")
        self.assertEqual(decoded("\\&bsol;*"), "&bsol;*")
        self.assertEqual(decoded("&#92;&#92;"), "\\\\")

    def test_all_short_texts(self):
        pieces = re.compile(r"(\\[!-/:-@\[-`{-~])|&lt;|&amp;|[^&]|&", re.DOTALL)
        signs = {"&lt;": "<", "&amp;": "&"}
        for row in itertools.product(("\\", "&", "lt", "amp", ";", "a", "*", "\n"), repeat=5):
            text = "".join(row)
            wanted = "".join(found[1][1] if found[1] else signs.get(found[0], found[0])
                             for found in pieces.finditer(text))
            self.assertEqual(decoded(text), wanted, text)

    def test_argument_by_name(self):
        self.assertEqual(decoded(text="&lt;"), "<")

    def test_a_long_text(self):
        self.assertEqual(decoded("\\*&lt;" * 6000), "*<" * 6000)


if __name__ == "__main__":
    unittest.main()
