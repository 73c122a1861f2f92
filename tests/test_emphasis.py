"""4.6, 4.7: runs, and which of them pair."""

import itertools
import random
import re
import unittest

from plainmark.inlines import inlines
from shapes import HARD, SOFT, c, em, image, link, raw, strong, t

PUNCTUATION = "!\"#$&'()*+,-./:;<=>?@[\\]^_`{|}~"


class Oracle:
    """4.6 and 4.7 word by word, for contents of letters, blanks, runs and punctuation alone."""

    def __init__(self, content):
        self.content = content
        # Each piece is a text, or a list [sign, length, opens, closes, left].
        self.pieces = []
        for match in re.finditer(r"\*+|_+|[^*_]+", content):
            self.pieces.append(self.run(match) if match[0][0] in "*_" else match[0])

    def run(self, match):
        a = self.content[match.start() - 1] if match.start() > 0 else " "
        b = self.content[match.end()] if match.end() < len(self.content) else " "
        left = not b.isspace() and (b not in PUNCTUATION or a.isspace() or a in PUNCTUATION)
        right = not a.isspace() and (a not in PUNCTUATION or b.isspace() or b in PUNCTUATION)
        if match[0][0] == "*":
            return ["*", len(match[0]), left, right, len(match[0])]
        return ["_", len(match[0]), left and (not right or a in PUNCTUATION), right and (not left or b in PUNCTUATION),
                len(match[0])]

    def may_pair(self, one, other):
        both = one[2] and one[3] or other[2] and other[3]
        if both and (one[1] + other[1]) % 3 == 0 and not (one[1] % 3 == 0 and other[1] % 3 == 0):
            return False
        return True

    def inlines(self):
        """The inlines: pieces between partners are put into a node, again and again."""
        pieces = self.pieces
        at = 0
        while at < len(pieces):
            run = pieces[at]
            if not isinstance(run, list) or not run[3] or run[4] == 0:
                at += 1
                continue
            partner = None
            for index in range(at - 1, -1, -1):
                one = pieces[index]
                if isinstance(one, list) and one[0] == run[0] and one[2] and one[4] > 0 and self.may_pair(one, run):
                    partner = index
                    break
            if partner is None:
                at += 1
                continue
            many = 2 if pieces[partner][4] >= 2 and run[4] >= 2 else 1
            inner = self.joined(pieces[partner + 1:at])
            node = ({1: "emph", 2: "strong"}[many], inner)
            pieces[partner][4] -= many
            run[4] -= many
            pieces[partner + 1:at] = [node]
            at = partner + 2
        return self.joined(pieces)

    def joined(self, pieces):
        row = []
        for piece in pieces:
            if isinstance(piece, list):
                piece = piece[0] * piece[4]
            if isinstance(piece, tuple):
                row.append(piece)
            elif piece and row and row[-1][0] == "text":
                row[-1] = ("text", row[-1][1] + piece)
            elif piece:
                row.append(("text", piece))
        return tuple(row)


class Told(unittest.TestCase):
    def told(self, content, *row):
        self.assertEqual(inlines(content), row, repr(content))

    def texts(self, *contents):
        for content in contents:
            self.told(content, t(content))


class Runs(Told):
    def test_stars(self):
        self.told("*a*", em(t("a")))
        self.told("**a**", strong(t("a")))
        self.told("***a***", em(strong(t("a"))))
        self.told("****a****", strong(strong(t("a"))))
        self.told("a*b*c", t("a"), em(t("b")), t("c"))
        self.told("a**b**c", t("a"), strong(t("b")), t("c"))

    def test_underscores(self):
        self.told("_a_", em(t("a")))
        self.told("__a__", strong(t("a")))
        self.told("___a___", em(strong(t("a"))))
        self.told("____a____", strong(strong(t("a"))))
        self.texts("a_b_c", "a__b__c", "_a_b", "a_b_", "1_2_3", "__a__b", "a__b__")
        self.told("_a_.", em(t("a")), t("."))
        self.told("._a_", t("."), em(t("a")))
        self.told("_a_b_", em(t("a_b")))
        self.told("__a_b__c__", strong(t("a_b__c")))

    def test_white_beside(self):
        for run in ("*", "**", "***", "****", "_", "__", "___", "____"):
            self.texts(run, run + " a" + run, " " + run + " ", "a " + run + " b", run + "\ta" + run, f"a{run} b{run} c")
            self.texts(run + "a " + run)
            self.assertEqual(len(inlines(f"{run}a\n{run}")), 3)
            self.assertEqual(len(inlines(f"{run}\na{run}")), 3)

    def test_the_ends(self):
        for run in ("*", "**", "_", "__"):
            self.assertEqual([one[0] for one in inlines(run + "a" + run)], ["emph" if len(run) == 1 else "strong"])
            self.texts(run + "a", "a" + run, run)

    def test_punctuation_beside(self):
        self.told("*(a)*", em(t("(a)")))
        self.told("**(a)**", strong(t("(a)")))
        self.texts("a*(b)*c", "a*\"b\"*", "*a.*b", "**a.**b", "a**(b)**c", "_(a)_b", "a_(b)_")
        self.told("(*a*)", t("("), em(t("a")), t(")"))
        self.told("(_a_)", t("("), em(t("a")), t(")"))
        self.told("-*(a)*-", t("-"), em(t("(a)")), t("-"))
        self.told("a *(b)* c", t("a "), em(t("(b)")), t(" c"))
        self.told("_(_a_)_", em(t("("), em(t("a")), t(")")))
        self.told("*(**a**)*", em(t("("), strong(t("a")), t(")")))

    def test_each_punctuation_beside(self):
        for sign in PUNCTUATION:
            if sign in "*_\\`<[!&]":
                continue
            self.texts(f"a*{sign}b*"[:5], f"a_{sign}b_")
            self.told(f"{sign}*{sign}b{sign}*{sign}", t(sign), em(t(f"{sign}b{sign}")), t(sign))
            self.told(f"{sign}_{sign}b{sign}_{sign}", t(sign), em(t(f"{sign}b{sign}")), t(sign))

    def test_signs_count_as_they_are_written(self):
        self.told("&#97;*\"b\"*", t("a"), em(t("\"b\"")))
        self.told("a*\"b\"*", t("a*\"b\"*"))
        self.told("&#32;*a*", t(" "), em(t("a")))
        self.told("a&#32;*b *", t("a *b *"))
        self.told("\\**a*", t("*"), em(t("a")))
        self.told("*a\\**", em(t("a*")))
        self.told("\\***a**", t("*"), strong(t("a")))
        self.told("_\\_a_", em(t("_a")))
        self.told("`a`*b*", c("a"), em(t("b")))
        self.told("a*`b`*", t("a*"), c("b"), t("*"))
        self.told("*a*<b>", em(t("a")), raw("<b>"))

    def test_line_feeds_are_white(self):
        self.told("a\n*b*\nc", t("a"), SOFT, em(t("b")), SOFT, t("c"))
        self.told("*a\nb*", em(t("a"), SOFT, t("b")))
        self.told("*a\\\nb*", em(t("a"), HARD, t("b")))
        self.told("_a  \n_b", t("_a"), HARD, t("_b"))


class Pairs(Told):
    def test_one_and_two(self):
        self.told("**a*", t("*"), em(t("a")))
        self.told("*a**", em(t("a")), t("*"))
        self.told("***a*", t("**"), em(t("a")))
        self.told("*a***", em(t("a")), t("**"))
        self.told("***a**", t("*"), strong(t("a")))
        self.told("**a***", strong(t("a")), t("*"))
        self.told("****a**", t("**"), strong(t("a")))
        self.told("****a*", t("***"), em(t("a")))
        self.told("__a_", t("_"), em(t("a")))

    def test_runs_that_are_used_twice(self):
        self.told("***a** b*", em(strong(t("a")), t(" b")))
        self.told("***a* b**", strong(em(t("a")), t(" b")))
        self.told("*a **b***", em(t("a "), strong(t("b"))))
        self.told("**a *b***", strong(t("a "), em(t("b"))))
        self.told("*a*b*c*", em(t("a")), t("b"), em(t("c")))
        self.told("*a*b*", em(t("a")), t("b*"))

    def test_within_one_another(self):
        self.told("*a *b* c*", em(t("a "), em(t("b")), t(" c")))
        self.told("*a **b** c*", em(t("a "), strong(t("b")), t(" c")))
        self.told("**a *b* c**", strong(t("a "), em(t("b")), t(" c")))
        self.told("**a **b** c**", strong(t("a "), strong(t("b")), t(" c")))
        self.told("*a _b_ c*", em(t("a "), em(t("b")), t(" c")))
        self.told("_a *b* c_", em(t("a "), em(t("b")), t(" c")))
        self.told("*_a_*", em(em(t("a"))))
        self.told("**_a_**", strong(em(t("a"))))

    def test_the_nearest_partner(self):
        self.told("*a *b*", t("*a "), em(t("b")))
        self.told("**a *b*", t("**a "), em(t("b")))
        self.told("*a **b*", t("*a *"), em(t("b")))
        self.told("*a _b*", em(t("a _b")))
        self.told("_a *b_", em(t("a *b")))
        self.told("*a _b* c_", em(t("a _b")), t(" c_"))

    def test_runs_between_have_nothing_left(self):
        self.told("*a **b* c**", em(t("a "), em(em(t("b")), t(" c"))))
        self.told("**a *b** c*", em(em(t("a "), em(t("b"))), t(" c")))
        self.told("*a __b* c__ d", em(t("a __b")), t(" c__ d"))
        self.told("**a _b** c_ __d__", strong(t("a _b")), t(" c_ "), strong(t("d")))
        self.told("*a _b* c_ d", em(t("a _b")), t(" c_ d"))
        self.told("_a **b_ c** *d*", em(t("a **b")), t(" c** "), em(t("d")))

    def test_the_rule_of_three(self):
        self.told("*a**b*", em(t("a**b")))
        self.told("*a**b**c*", em(t("a"), strong(t("b")), t("c")))
        self.told("**a*b**", strong(t("a*b")))
        self.told("a***b***c", t("a"), em(strong(t("b"))), t("c"))
        self.told("a*b**c", t("a*b**c"))
        self.told("a**b*c", t("a**b*c"))
        self.told("*a**", em(t("a")), t("*"))
        self.told("a***b*c", t("a**"), em(t("b")), t("c"))
        self.told("a*****b*c", t("a*****b*c"))
        self.told("a******b***c", t("a***"), em(strong(t("b"))), t("c"))
        self.told("a****b**c", t("a****b**c"))
        self.told("a*****b****c", t("a*****b****c"))
        self.told("_a__b_", em(t("a__b")))
        self.told("(_a)__(b_)", t("("), em(t("a)__(b")), t(")"))

    def test_lengths_are_those_at_first(self):
        self.told("a**b*c**", t("a"), strong(t("b*c")))
        self.told("**a***b*", strong(t("a")), em(t("b")))
        self.told("*a***b**", em(t("a")), strong(t("b")))
        self.told("a***b**c*", t("a"), em(strong(t("b")), t("c")))

    def test_other_inlines_between(self):
        self.told("*`a`*", em(c("a")))
        self.told("**<b>**", strong(raw("<b>")))
        self.told("*[a](b)*", em(link("b", t("a"))))
        self.told("**![a](b)**", strong(image("b", t("a"))))
        self.told("*&amp;*", em(t("&")))
        self.told("*a `*` b*", em(t("a "), c("*"), t(" b")))

    def test_all_short_contents(self):
        for length in range(1, 7):
            for signs in itertools.product("*_a .", repeat=length):
                content = "".join(signs)
                self.assertEqual(inlines(content), Oracle(content).inlines(), repr(content))

    def test_many_contents(self):
        chance = random.Random(1)
        pieces = ["*", "**", "***", "****", "*", "_", "__", "___", "____", "a", "b", "a", " ", " ", "(", ")", "."]
        for _ in range(8000):
            content = "".join(chance.choice(pieces) for _ in range(chance.randint(4, 24)))
            self.assertEqual(inlines(content), Oracle(content).inlines(), repr(content))

    def test_long_contents(self):
        for content in ("*a " * 3000, "a* " * 3000, "*a **b " * 1500 + "c*" * 40, " **a" * 1500 + "b*c" * 1500, "a*b**c_d" * 1000,
                        "*a_ " * 2000, "_a* " * 2000, "(*a)*" * 2000):
            row = inlines(content)
            self.assertEqual(type(row), tuple)
            if len(row) == 1:
                self.assertIn(row[0][0], ("text", "emph"))


if __name__ == "__main__":
    unittest.main()
