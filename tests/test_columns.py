import itertools
import unittest

from plainmark.columns import indent, lines_of, taken, told, whole

NO_WHITE = "".join(chr(code) for code in range(33, 127) if code != 37)


def behind(line, place):
    """The rest behind so many signs of a line, none of them a tab."""
    return (line[place:], place, 0)


def columns_of(line):
    """One sign for each column of a line: its own for a sign, blanks for a tab."""
    columns = ""
    for sign in line:
        columns += " " * (4 - len(columns) % 4) if sign == "\t" else sign
    return columns


def columns_left(rest):
    """The columns of a rest, from its own column on."""
    text, column, held = rest
    return columns_of("x" * column + " " * held + text)[column:]


class Lines(unittest.TestCase):
    def test_lines_of_ordinary_texts(self):
        self.assertEqual(lines_of("a"), ["a"])
        self.assertEqual(lines_of("a\n"), ["a"])
        self.assertEqual(lines_of("a\nb"), ["a", "b"])
        self.assertEqual(lines_of("a\n\nb"), ["a", "", "b"])
        self.assertEqual(lines_of("a\n\nb\n"), ["a", "", "b"])
        self.assertEqual(lines_of("a\nb\n\n"), ["a", "b", ""])
        self.assertEqual(lines_of("\na"), ["", "a"])

    def test_texts_without_signs_that_are_seen(self):
        self.assertEqual(lines_of(""), [])
        self.assertEqual(lines_of("\n"), [""])
        self.assertEqual(lines_of("\n\n"), ["", ""])
        self.assertEqual(lines_of("\n\n\n"), ["", "", ""])

    def test_white_is_kept(self):
        self.assertEqual(lines_of(" "), [" "])
        self.assertEqual(lines_of("\t"), ["\t"])
        self.assertEqual(lines_of(" \t\n"), [" \t"])
        self.assertEqual(lines_of("\n \t"), ["", " \t"])
        self.assertEqual(lines_of("  \n\t\t\n \t "), ["  ", "\t\t", " \t "])
        self.assertEqual(lines_of(" a \n\tb\t"), [" a ", "\tb\t"])

    def test_only_line_feeds_part_lines(self):
        for sign in NO_WHITE + " \t":
            self.assertEqual(lines_of(sign + "a" + sign), [sign + "a" + sign])
        self.assertEqual(lines_of("a\\nb <br> & c"), ["a\\nb <br> & c"])

    def test_the_list_is_new_each_time(self):
        for text in ("", "a", "a\nb\n", "\n"):
            first = lines_of(text)
            wanted = list(first)
            first.append("x")
            self.assertEqual(lines_of(text), wanted)
            self.assertIs(type(first), list)

    def test_many_lines(self):
        self.assertEqual(lines_of("ab\n" * 200), ["ab"] * 200)

    def test_lines_joined_again_are_the_text(self):
        for signs in itertools.product("a \n", repeat=5):
            text = "".join(signs)
            lines = lines_of(text)
            self.assertEqual("".join(line + "\n" for line in lines),
                             text if text.endswith("\n") else text + "\n")

    def test_passed_by_name(self):
        self.assertEqual(lines_of(text="a\nb"), ["a", "b"])


class Whole(unittest.TestCase):
    def test_whole(self):
        for line in ("", "a", "  a", "\ta", ">\t\tx", " \t "):
            self.assertEqual(whole(line), (line, 0, 0))
            self.assertIs(type(whole(line)), tuple)

    def test_passed_by_name(self):
        self.assertEqual(whole(line="a"), ("a", 0, 0))


class Indent(unittest.TestCase):
    def test_whole_lines(self):
        for line, many in (("", 0), ("a", 0), (" a", 1), ("   a", 3), ("    a", 4), ("\ta", 4),
                           (" \ta", 4), ("   \ta", 4), ("    \ta", 8), ("\t a", 5), ("\t\ta", 8),
                           (" \t \ta", 8), ("\t   a", 7), ("a b", 0), ("a\tb", 0), (" a \tb", 1)):
            self.assertEqual(indent(whole(line)), many, line)

    def test_white_alone(self):
        for line, many in ((" ", 1), ("   ", 3), ("\t", 4), ("\t\t", 8), (" \t ", 5), ("  \t", 4)):
            self.assertEqual(indent(whole(line)), many, line)

    def test_a_tab_at_each_column(self):
        wanted = (4, 3, 2, 1, 4, 3, 2, 1, 4, 3)
        for column, many in enumerate(wanted):
            self.assertEqual(indent(("\ta", column, 0)), many)
            self.assertEqual(indent(("\t", column, 0)), many)
            self.assertEqual(indent(("\t\ta", column, 0)), many + 4)
            self.assertEqual(indent(("\t a", column, 0)), many + 1)

    def test_a_blank_and_a_tab_at_each_column(self):
        wanted = (4, 3, 2, 5, 4, 3, 2, 5, 4, 3)
        for column, many in enumerate(wanted):
            self.assertEqual(indent((" \ta", column, 0)), many)

    def test_blanks_at_each_column(self):
        for column in range(10):
            for many in range(6):
                self.assertEqual(indent((" " * many + "a", column, 0)), many)

    def test_held_blanks_count(self):
        for column, held in ((1, 3), (2, 2), (3, 1), (5, 3), (6, 2), (7, 1)):
            self.assertEqual(indent(("a", column, held)), held)
            self.assertEqual(indent(("", column, held)), held)
            self.assertEqual(indent((" a", column, held)), held + 1)
            self.assertEqual(indent(("\ta", column, held)), held + 4)
            self.assertEqual(indent((" \ta", column, held)), held + 4)
            self.assertEqual(indent(("\t\t", column, held)), held + 8)
            self.assertEqual(indent(("  \t \ta", column, held)), held + 8)

    def test_no_other_sign_is_white(self):
        for sign in NO_WHITE:
            self.assertEqual(indent((sign + " ", 1, 0)), 0, sign)
            self.assertEqual(indent((sign, 1, 3)), 3, sign)
            self.assertEqual(indent((" \t" + sign + "\t", 5, 0)), 3, sign)
            self.assertEqual(taken((" \t" + sign + "\t", 5, 0), 3), (sign + "\t", 8, 0), sign)

    def test_a_rest_without_text(self):
        for column in range(10):
            self.assertEqual(indent(("", column, 0)), 0)

    def test_the_kind_of_value_and_by_name(self):
        self.assertIs(type(indent(("\ta", 0, 0))), int)
        self.assertEqual(indent(rest=("\ta", 2, 2)), 6)


class Taken(unittest.TestCase):
    def check(self, rest, wanted):
        for many, one in enumerate(wanted):
            self.assertEqual(taken(rest, many), one, (rest, many))
        self.assertEqual(indent(rest), len(wanted) - 1)

    def test_no_white(self):
        self.check(("a", 0, 0), [("a", 0, 0)])
        self.check(("", 3, 0), [("", 3, 0)])

    def test_blanks(self):
        self.check(("  a", 0, 0), [("  a", 0, 0), (" a", 1, 0), ("a", 2, 0)])
        self.check(("  ", 5, 0), [("  ", 5, 0), (" ", 6, 0), ("", 7, 0)])

    def test_a_tab_that_is_begun(self):
        self.check(("\ta", 0, 0),
                   [("\ta", 0, 0), ("a", 1, 3), ("a", 2, 2), ("a", 3, 1), ("a", 4, 0)])
        self.check(("\ta", 5, 0), [("\ta", 5, 0), ("a", 6, 2), ("a", 7, 1), ("a", 8, 0)])
        self.check(("\ta", 7, 0), [("\ta", 7, 0), ("a", 8, 0)])

    def test_blanks_and_tabs(self):
        self.check((" \t a", 1, 0),
                   [(" \t a", 1, 0), ("\t a", 2, 0), (" a", 3, 1), (" a", 4, 0), ("a", 5, 0)])
        self.check(("\t\tx", 1, 0),
                   [("\t\tx", 1, 0), ("\tx", 2, 2), ("\tx", 3, 1), ("\tx", 4, 0),
                    ("x", 5, 3), ("x", 6, 2), ("x", 7, 1), ("x", 8, 0)])

    def test_held_blanks(self):
        self.check(("a", 1, 3), [("a", 1, 3), ("a", 2, 2), ("a", 3, 1), ("a", 4, 0)])
        self.check(("", 6, 2), [("", 6, 2), ("", 7, 1), ("", 8, 0)])
        self.check(("\tx", 2, 2),
                   [("\tx", 2, 2), ("\tx", 3, 1), ("\tx", 4, 0),
                    ("x", 5, 3), ("x", 6, 2), ("x", 7, 1), ("x", 8, 0)])
        self.check((" \t", 3, 1),
                   [(" \t", 3, 1), (" \t", 4, 0), ("\t", 5, 0), ("", 6, 2), ("", 7, 1), ("", 8, 0)])

    def test_white_behind_is_left(self):
        self.assertEqual(taken(("   a b", 0, 0), 1), ("  a b", 1, 0))
        self.assertEqual(taken(("\t\t\tx", 0, 0), 4), ("\t\tx", 4, 0))
        self.assertEqual(taken((" a\t b", 0, 0), 1), ("a\t b", 1, 0))

    def test_no_sign_that_is_no_white_is_taken(self):
        self.assertEqual(taken((" a", 0, 0), 3)[0], "a")
        self.assertEqual(taken(("", 0, 0), 3)[0], "")
        self.assertEqual(taken(("\t", 2, 0), 9)[0], "")

    def test_the_columns_left_are_those_of_the_line(self):
        for signs in itertools.product(" \ta", repeat=4):
            for column in range(10):
                rest = ("".join(signs), column, 0)
                all_columns = columns_left(rest)
                for many in range(indent(rest) + 1):
                    left = taken(rest, many)
                    self.assertEqual(left[1], column + many)
                    self.assertIn(left[2], (0, 1, 2, 3))
                    self.assertTrue(rest[0].endswith(left[0]))
                    self.assertEqual(columns_left(left), all_columns[many:], (rest, many))
                    self.assertEqual(indent(left), indent(rest) - many)

    def test_only_as_much_white_as_is_needed(self):
        for signs in itertools.product(" \t", repeat=4):
            for column in range(10):
                rest = ("".join(signs) + "x", column, 0)
                for many in range(1, indent(rest) + 1):
                    text, begin, held = taken(rest, many)
                    used = rest[0][:len(rest[0]) - len(text)]
                    ahead = columns_of("x" * column + used[:-1])
                    self.assertLess(len(ahead), column + many)
                    self.assertEqual(len(columns_of("x" * column + used)), begin + held)

    def test_several_steps_are_one(self):
        for line in ("\t\t\tx", " \t  \tx", "   \t \t", "        x"):
            for column in range(10):
                for rest in ((line, column, 0), (line, column, -column % 4)):
                    many = indent(rest)
                    for first in range(many + 1):
                        for second in range(many - first + 1):
                            self.assertEqual(taken(taken(rest, first), second),
                                             taken(rest, first + second))

    def test_nothing_taken(self):
        for rest in (("", 0, 0), ("a", 9, 0), ("\tx", 2, 2), (" \t", 5, 0)):
            self.assertEqual(taken(rest, 0), rest)

    def test_the_kind_of_value_and_by_name(self):
        left = taken(rest=("\t\tx", 1, 0), many=5)
        self.assertEqual(left, ("x", 6, 2))
        self.assertIs(type(left), tuple)


class Told(unittest.TestCase):
    def test_held_blanks_stand_ahead(self):
        for text in ("", "x", " x", "\tx", "\t", "a b"):
            self.assertEqual(told((text, 4, 0)), text)
            self.assertEqual(told((text, 3, 1)), " " + text)
            self.assertEqual(told((text, 2, 2)), "  " + text)
            self.assertEqual(told((text, 1, 3)), "   " + text)

    def test_the_column_means_nothing(self):
        for column in range(10):
            self.assertEqual(told(("a", column, 0)), "a")

    def test_by_name(self):
        self.assertEqual(told(rest=("a", 2, 2)), "  a")


class Examples(unittest.TestCase):
    """What stands in point 1b.3."""

    def test_behind_the_sign_of_a_quote(self):
        self.assertEqual(whole(">\t\tx"), (">\t\tx", 0, 0))
        rest = behind(">\t\tx", 1)
        self.assertEqual(rest, ("\t\tx", 1, 0))
        self.assertEqual(indent(rest), 7)
        self.assertEqual(taken(rest, 1), ("\tx", 2, 2))
        self.assertEqual(taken(rest, 5), ("x", 6, 2))
        self.assertEqual(told(taken(rest, 5)), "  x")

    def test_code_in_a_quote(self):
        quoted = taken(behind(">\t\tx", 1), 1)
        self.assertEqual(indent(quoted), 6)
        self.assertEqual(told(taken(quoted, 4)), "  x")

    def test_behind_the_sign_of_an_item(self):
        rest = behind("-\t\tx", 1)
        self.assertEqual(rest, ("\t\tx", 1, 0))
        self.assertEqual(indent(rest), 7)


if __name__ == "__main__":
    unittest.main()
