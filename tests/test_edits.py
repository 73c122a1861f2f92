"""Part 8: edits, and what stays."""

import copy
import random
import unittest

from plainmark.blocks import Reader, outline, spans, state
from plainmark.columns import lines_of
from plainmark.edits import back, changed_labels, edited, felt, least_edit, reread, stays
from plainmark.errors import NoEdit, NoSource
from plainmark.reading import read
from shapes import NotEqual, others

TEXT = "a\n\nb\nc\n\n[d]\n\n[e]: /u\n"
LINES = ("a", "b", "", "", "", "[a]", "[b] x", "[a]: /u", "[b]: /v 't'", "- ", "- a", "  b", "    c", "> a", ">", "```", "~~~", "<!--", "-->", "<div>",
         "# h", "===", "---", "1. x", "* [a]", "> [B]", "  [b]: /w")
FUNCTIONS = (edited, back, reread, stays, changed_labels, felt)


def chance_edits(seed, many):
    """Many tuples (text, edit) by chance."""
    chance = random.Random(seed)
    for _ in range(many):
        lines = [chance.choice(LINES) for _ in range(chance.randint(0, 10))]
        text = "\n".join(lines) + chance.choice(("", "\n"))
        number = len(lines_of(text))
        first = chance.randint(0, number)
        put_in = [chance.choice(LINES) for _ in range(chance.randint(0, 3))]
        yield text, (first, chance.randint(0, min(3, number - first)), chance.choice((put_in, tuple(put_in))))


def text_of(lines):
    return "".join(line + "\n" for line in lines)


def paragraphs(block):
    """The raw texts of the paragraphs and headings in a block of an outline."""
    if block[0] in ("paragraph", "heading"):
        return [block[-1]]
    inner = block[1] if block[0] == "quote" else [one for item in block[4] for one in item] if block[0] == "list" else ()
    return [raw for one in inner for raw in paragraphs(one)]


class Edited(unittest.TestCase):
    def test_ordinary_edits(self):
        self.assertEqual(edited("a\nb\nc\n", (1, 1, ["x"])), "a\nx\nc\n")
        self.assertEqual(edited("a\nb\nc\n", (0, 1, ["x"])), "x\nb\nc\n")
        self.assertEqual(edited("a\nb\nc\n", (2, 1, ["x"])), "a\nb\nx\n")
        self.assertEqual(edited("a\nb\nc\n", (0, 3, ["x"])), "x\n")
        self.assertEqual(edited("a\nb\nc\n", (1, 1, ("x", "y", ""))), "a\nx\ny\n\nc\n")
        self.assertEqual(edited("a\nb\nc\n", (1, 2, ())), "a\n")

    def test_lines_put_in_and_taken_away(self):
        self.assertEqual(edited("a\nb\n", (0, 0, ["x"])), "x\na\nb\n")
        self.assertEqual(edited("a\nb\n", (1, 0, ["x", "y"])), "a\nx\ny\nb\n")
        self.assertEqual(edited("a\nb\n", (2, 0, ["x"])), "a\nb\nx\n")
        self.assertEqual(edited("a\nb\n", (0, 1, [])), "b\n")
        self.assertEqual(edited("a\nb\n", (0, 2, [])), "")
        self.assertEqual(edited("a\nb\n", (1, 0, [])), "a\nb\n")
        self.assertEqual(edited("", (0, 0, [])), "")
        self.assertEqual(edited("", (0, 0, ["a", ""])), "a\n\n")

    def test_texts_without_a_line_feed_at_the_end(self):
        self.assertEqual(edited("a", (0, 0, [])), "a\n")
        self.assertEqual(edited("a\nb", (2, 0, ["c"])), "a\nb\nc\n")
        self.assertEqual(edited("a\nb", (1, 1, ["c"])), "a\nc\n")
        self.assertEqual(edited("a\n\n", (2, 0, ["c"])), "a\n\nc\n")
        self.assertEqual(edited("\n", (0, 1, [])), "")

    def test_back(self):
        self.assertEqual(back("a\nb\nc\n", (1, 1, ["x", "y"])), (1, 2, ["b"]))
        self.assertEqual(back("a\nb\nc\n", (0, 0, ["x"])), (0, 1, []))
        self.assertEqual(back("a\nb\nc", (1, 2, ())), (1, 0, ["b", "c"]))
        self.assertEqual(back("", (0, 0, [])), (0, 0, []))
        self.assertEqual([type(one) for one in back("a", (0, 1, ("b",)))], [int, int, list])

    def test_back_and_forth(self):
        for text, edit in chance_edits(61, 1500):
            there = edited(text, edit)
            again = back(text, edit)
            self.assertEqual(edited(there, again), text_of(lines_of(text)))
            self.assertEqual(back(there, again), (edit[0], edit[1], list(edit[2])))

    def test_what_was_passed_stays(self):
        for text, edit in chance_edits(62, 200):
            kept = copy.deepcopy(edit)
            for function in FUNCTIONS:
                function(text, edit)
                self.assertEqual(edit, kept)

    def test_lists_are_new(self):
        lines = ["b"]
        edit = (0, 1, lines)
        told = back("b\n", edit)
        told[2].append("x")
        least_edit("b\n", "c\n")[2].append("x")
        changed_labels("[a]: /u", (0, 1, [])).append("x")
        felt("a", (0, 0, [])).append(7)
        self.assertEqual([lines, back("b\n", edit), changed_labels("[a]: /u", (0, 1, [])), felt("a", (0, 0, []))],
                         [["b"], (0, 1, ["b"]), ["a"], []])


class LeastEdits(unittest.TestCase):
    def told(self, text, other, *edit):
        self.assertEqual(least_edit(text, other), edit)

    def test_equal_texts(self):
        self.told("", "", 0, 0, [])
        self.told("a\nb\n", "a\nb\n", 2, 0, [])
        self.told("a\nb", "a\nb\n", 2, 0, [])
        self.told("\n", "\n", 1, 0, [])

    def test_same_begin_and_end(self):
        self.told("a\nb\nc\n", "a\nx\nc\n", 1, 1, ["x"])
        self.told("a\nb\nc\n", "a\nc\n", 1, 1, [])
        self.told("a\nc\n", "a\nb\nc\n", 1, 0, ["b"])
        self.told("a\nb\nc\n", "x\ny\n", 0, 3, ["x", "y"])
        self.told("", "a\n", 0, 0, ["a"])
        self.told("a\n", "", 0, 1, [])
        self.told("a\nb\nc\nd\n", "a\nx\ny\nd\n", 1, 2, ["x", "y"])

    def test_the_greatest_first(self):
        self.told("a\n", "a\na\n", 1, 0, ["a"])
        self.told("a\na\na\n", "a\n", 1, 2, [])
        self.told("a\nb\na\nb\n", "a\nb\n", 2, 2, [])
        self.told("a\nb\n", "a\nb\na\nb\n", 2, 0, ["a", "b"])
        self.told("a\nb\na\n", "a\na\n", 1, 1, [])
        self.told("x\na\n", "x\nb\na\na\n", 1, 0, ["b", "a"])

    def test_over_many_texts(self):
        for text, edit in chance_edits(63, 1500):
            other = edited(text, edit)
            first, many, lines = least_edit(text, other)
            old, new = lines_of(text), lines_of(other)
            self.assertEqual(lines_of(edited(text, (first, many, lines))), new)
            self.assertEqual(old[:first], new[:first])
            self.assertFalse(first < len(old) and first < len(new) and old[first] == new[first])
            self.assertFalse(many and lines and old[first + many - 1] == lines[-1])
            self.assertLessEqual(many, len(old) - first)

    def test_arguments_by_name(self):
        self.assertEqual(least_edit(other="b", text="a"), (0, 1, ["b"]))


class Reread(unittest.TestCase):
    def told(self, text, edit, *wanted):
        self.assertEqual(reread(text, edit), wanted)
        old_end, new_end = wanted[1], wanted[2]
        there = edited(text, edit)
        self.assertEqual(reread(there, back(text, edit)), (wanted[0], new_end, old_end, wanted[3]))

    def test_edits_that_change_nothing(self):
        self.told("a\nb\n", (1, 1, ["b"]), 2, 2, 2, True)
        self.told("a\nb\n", (0, 0, []), 2, 2, 2, True)
        self.told("", (0, 0, []), 0, 0, 0, True)
        self.told("```\na", (0, 2, ["```", "a"]), 2, 2, 2, True)

    def test_states_that_meet_at_once(self):
        self.told("# a\n# b\n# c\n", (1, 1, ["# x"]), 1, 2, 2, True)
        self.told("# a\n# b\n# c\n", (1, 1, []), 1, 2, 1, True)
        self.told("# a\n# c\n", (1, 0, ["# b", "***"]), 1, 1, 3, True)
        self.told("a\n\nb\n", (1, 1, ["", ""]), 2, 2, 3, True)
        self.told("- a\n- # b\n- c\n", (1, 1, ["- # x"]), 1, 2, 2, True)

    def test_states_that_meet_later(self):
        self.told("a\nb\n\nc\n", (0, 1, ["x"]), 0, 3, 3, True)
        self.told("a\nb\nc\n\nd\n", (1, 1, []), 1, 4, 3, True)
        self.told("a\n\n```\nb\n```\nc\n", (0, 1, ["# x"]), 0, 2, 2, True)
        self.told("a\n\n- b\n\nc\n", (2, 1, ["d"]), 2, 5, 5, True)
        self.told("- a\n  b\n\nc\n", (0, 1, ["+ a"]), 0, 4, 4, True)
        self.told("> a\n\nb\n", (0, 1, ["a"]), 0, 2, 2, True)
        self.told("    a\n\n\nb\n", (0, 1, ["# x"]), 0, 4, 4, True)

    def test_states_that_do_not_meet(self):
        self.told("a\nb\n", (1, 1, ["c"]), 1, 2, 2, False)
        self.told("a\n\nb\n\nc\n", (2, 1, ["```"]), 2, 5, 5, False)
        self.told("a\n\nb\n\nc\n", (2, 0, ["<!--"]), 2, 5, 6, False)
        self.told("```\na\n```\nb\n", (2, 1, []), 2, 4, 3, False)
        self.told("", (0, 0, ["a"]), 0, 0, 1, False)
        self.told("a", (0, 1, []), 0, 1, 0, False)
        self.told("- a\n\n\n", (0, 1, ["+ a"]), 0, 3, 3, False)

    def test_the_edit_is_turned_into_the_least_one(self):
        self.told("a\n\nb\n\nc\n", (0, 5, ["a", "", "x", "", "c"]), 2, 4, 4, True)
        self.told("# a\n# b\n# c\n", (0, 3, ["# a", "# c"]), 1, 2, 1, True)

    def test_against_states(self):
        for text, edit in chance_edits(64, 1200):
            there = edited(text, edit)
            begin, old_end, new_end, meets = reread(text, edit)
            old, new = lines_of(text), lines_of(there)
            first, many, lines = least_edit(text, there)
            self.assertEqual(begin, first)
            alike = [place for place in range(len(old) - first - many + 1)
                     if state(text_of(old[:first + many + place])) == state(text_of(new[:first + len(lines) + place]))]
            if alike:
                self.assertEqual((old_end, new_end, meets), (first + many + alike[0], first + len(lines) + alike[0], True))
                self.assertEqual(len(alike), len(old) - old_end + 1)
            else:
                self.assertEqual((old_end, new_end, meets), (len(old), len(new), False))
            self.assertIs(type(meets), bool)
            self.assertEqual(reread(there, back(text, edit)), (begin, new_end, old_end, meets))


class Stays(unittest.TestCase):
    def told(self, text, edit, *wanted):
        self.assertEqual(stays(text, edit), wanted)

    def test_ahead(self):
        self.told("a\n\nb\n\nc\n", (4, 1, ["x"]), 2, 0)
        self.told("# a\nb\n", (1, 1, ["x"]), 1, 0)
        self.told("a\nb\n", (1, 1, ["x"]), 0, 0)
        self.told("- a\n\nb\n", (2, 1, ["- b"]), 0, 0)
        self.told("- a\n\n# b\nc\n", (3, 1, ["d"]), 2, 0)
        self.told("[a]: /u\n[b]: /v\nc\n\nd\n", (4, 1, ["e"]), 3, 0)
        self.told("[a]: /u\n[b]: /v\nc\n\nd\n", (2, 1, ["e"]), 0, 1)
        self.told("> a\n\nb", (2, 1, ["c"]), 1, 0)

    def test_behind(self):
        self.told("a\n\nb\n\n# c\n\nd\n", (0, 1, ["x"]), 0, 3)
        self.told("# a\n- b\n- c\n\n  d\n\n> e\n", (0, 1, ["# x"]), 0, 2)
        self.told("- a\n- # b\n- c\n\nd\n", (1, 1, ["- # x"]), 0, 1)
        self.told("# a\n[b]: /u\n[c]: /v\nd", (0, 1, []), 0, 3)
        self.told("[a]: /u\nb\n", (0, 0, ["# x"]), 0, 2)

    def test_both(self):
        self.told("a\n\nb\n\nc\n", (2, 1, ["x"]), 1, 1)
        self.told("a\n\nb\n\nc\n", (2, 1, []), 1, 1)
        self.told("# a\n# b\n# c\n# d\n", (1, 2, []), 1, 1)

    def test_edits_that_change_nothing(self):
        self.told("a\n", (0, 0, []), 0, 0)
        self.told("a\n\n", (0, 0, []), 1, 0)
        self.told("a\n\n- b\n", (0, 1, ["a"]), 1, 0)
        self.told("", (0, 0, []), 0, 0)

    def test_what_opens_and_closes(self):
        text = "a\n\nb\n\nc\n"
        for line in ("```", "<!--", "~~~ x"):
            self.told(text, (2, 1, [line]), 1, 0)
            self.told(text, (0, 0, [line]), 0, 0)
        self.told(text, (2, 1, ["```", "```"]), 1, 1)
        self.told(text, (2, 1, ["<!-- -->"]), 1, 1)
        self.told(text, (2, 1, ["<div>"]), 1, 1)
        self.told(text, (2, 1, ["- x"]), 1, 0)
        self.told(text, (2, 1, ["> x"]), 1, 1)
        self.told("```\na\n```\n\nb\n", (1, 1, ["x"]), 0, 1)
        self.told("```\na\n```\n\nb\n", (0, 1, []), 0, 0)

    def test_facts(self):
        for text, edit in chance_edits(65, 1500):
            there = edited(text, edit)
            ahead, behind = stays(text, edit)
            begin, old_end, new_end, meets = reread(text, edit)
            old, new = outline(text), outline(there)
            self.assertLessEqual(ahead + behind, min(len(old), len(new)))
            self.assertEqual(old[:ahead], new[:ahead])
            self.assertEqual(old[len(old) - behind:], new[len(new) - behind:])
            self.assertEqual((ahead, behind), stays(there, back(text, edit)))
            head = text_of(lines_of(text)[:begin])
            if state(head) == ():
                self.assertEqual(ahead, len(outline(head)))
            elif state(head)[0][0] != "paragraph":
                self.assertEqual(ahead, len(outline(head)) - 1)
            begun = [first for place, _, first, _ in spans(text) if len(place) == 1 and first >= old_end]
            self.assertEqual(behind, len(begun) if meets else 0)


class Labels(unittest.TestCase):
    def test_changed_labels(self):
        text = "[a]: /u\n\n[b]: /v 't'\n\nc\n"
        self.assertEqual(changed_labels(text, (0, 0, [])), [])
        self.assertEqual(changed_labels(text, (4, 1, ["d"])), [])
        self.assertEqual(changed_labels(text, (0, 1, [])), ["a"])
        self.assertEqual(changed_labels(text, (0, 1, ["[a]: /w"])), ["a"])
        self.assertEqual(changed_labels(text, (0, 1, ["[A]: </u>"])), [])
        self.assertEqual(changed_labels(text, (0, 1, ["[a]: /u ''"])), ["a"])
        self.assertEqual(changed_labels(text, (2, 1, ["[b]: /v 'x'"])), ["b"])
        self.assertEqual(changed_labels(text, (4, 1, ["[a]: /w"])), [])
        self.assertEqual(changed_labels(text, (0, 0, ["[a]: /w", ""])), ["a"])
        self.assertEqual(changed_labels(text, (0, 3, ["[z]: /u", "[A  x]: /u"])), ["a", "a x", "b", "z"])
        self.assertEqual(changed_labels(text, (0, 0, ["```"])), ["a", "b"])
        self.assertEqual(changed_labels("> - [a]: /u", (0, 1, ["[a]: /u"])), [])

    def test_felt(self):
        text = "[a] b\n\n- [a]\n\n# c\n\n[a]: /u\n\n> [A]\n\n[x][a]\n"
        self.assertEqual(felt(text, (6, 1, ["[a]: /v"])), [0, 1, 4, 5])
        self.assertEqual(felt(text, (6, 1, [])), [0, 1, 3, 4])
        self.assertEqual(felt(text, (6, 1, ["[a]: /u", ""])), [])
        self.assertEqual(felt(text, (4, 1, ["# d"])), [])
        self.assertEqual(felt(text, (4, 1, ["[a]: /w"])), [0, 4, 5])
        self.assertEqual(felt(text, (4, 0, ["[b]: /w", "", "d", ""])), [])
        self.assertEqual(felt(text, (0, 0, ["[a]: /w", ""])), [1, 2, 5, 6])
        self.assertEqual(felt(text, (9, 0, ["", "[a]: /w"])), [])
        self.assertEqual(felt("[a]\n\n[a]: /u\n[a]", (0, 0, ["# x"])), [])

    def test_facts(self):
        many = 0
        for text, edit in chance_edits(66, 4000):
            there = edited(text, edit)
            ahead, behind = stays(text, edit)
            found, labels = felt(text, edit), changed_labels(text, edit)
            self.assertEqual(labels, sorted(set(labels)))
            self.assertEqual(found, sorted(set(found)))
            old, new = read(text), read(there)
            stay = list(range(ahead)) + list(range(len(new) - behind, len(new)))
            for index in stay:
                before = old[index] if index < ahead else old[index - len(new) + len(old)]
                self.assertEqual(before != new[index], index in found, (text, edit))
            self.assertTrue(set(found) <= set(stay))
            if not labels:
                self.assertEqual(found, [])
            for index in found:
                many += 1
                raws = [" ".join(raw.lower().split()) for raw in paragraphs(outline(there)[index])]
                self.assertTrue(any("[" in raw and label in raw for raw in raws for label in labels))
        self.assertGreater(many, 30)


class Errors(unittest.TestCase):
    def place(self, function, *arguments):
        with self.assertRaises(NoSource) as caught:
            function(*arguments)
        return caught.exception.place

    def index(self, text, edit):
        found = set()
        for function in FUNCTIONS:
            with self.assertRaises(NoEdit) as caught:
                function(text, edit)
            found.add(caught.exception.index)
        self.assertEqual(len(found), 1)
        return found.pop()

    def test_what_is_no_text(self):
        for thing in others() + [(), ("a",), {}, Reader(), NoEdit(1)]:
            for function in FUNCTIONS:
                self.assertEqual(self.place(function, thing, (0, 0, [])), -1)
                self.assertEqual(self.place(function, thing, None), -1)
            for other in ("a", None, 7):
                self.assertEqual(self.place(least_edit, thing, other), -1)
            self.assertEqual(self.place(least_edit, "a", thing), -1)

    def test_what_is_no_tuple_of_three(self):
        for edit in others() + ["", "abc", (), (0,), (0, 0), (0, 0, [], []), [0, 0, []], [], {}, {0: 0}, Reader(), NoEdit(1), ((0, 0, []),)]:
            self.assertEqual(self.index("a\nb\n", edit), -1)

    def test_first(self):
        for first in (-1, 3, 4, 10 ** 5000, -10 ** 5000, True, False, None, 0.0, 1.0, "0", b"", (), [], {}, NotEqual()):
            for many, lines in ((0, []), (9, []), (None, None), (0, "a")):
                self.assertEqual(self.index("a\nb\n", (first, many, lines)), 0)
        self.assertEqual(self.index("", (1, 0, [])), 0)
        self.assertEqual(self.index("a", (2, 0, [])), 0)

    def test_many(self):
        for first, most in ((0, 2), (1, 1), (2, 0)):
            for many in (-1, most + 1, 10 ** 5000, True, False, None, 0.0, "0", (), []):
                for lines in ([], None, "a", ["\n"]):
                    self.assertEqual(self.index("a\nb\n", (first, many, lines)), 1)
            self.assertEqual(len(lines_of(edited("a\nb\n", (first, most, [])))), first)

    def test_lines(self):
        for lines in others() + ["", "a", "ab", b"", {}, {"a": "b"}, {"a"}, ["a\n"], ["\n"], ["a", "b\nc"], ("a", "\n"), [None], [1], [b"a"],
                                 ["a", None], [["a"]], (("a",),), [True], ("a", b"b"), Reader()]:
            if lines not in ([], ["a"]):
                self.assertEqual(self.index("a\nb\n", (1, 1, lines)), 2)
        for lines in ([], (), ["a"], ("a", ""), ["\t "], ["a"] * 300):
            for function in FUNCTIONS:
                function("a\nb\n", (1, 1, lines))

    def test_arguments_by_name(self):
        for function in FUNCTIONS:
            self.assertEqual(function(edit=(0, 1, ["x"]), text=TEXT), function(TEXT, (0, 1, ["x"])))

    def test_kinds(self):
        for text, edit in ((TEXT, (2, 1, ["    b"])), (TEXT, (7, 1, ["[D]: /v"])), ("", (0, 0, []))):
            self.assertEqual([type(function(text, edit)) for function in FUNCTIONS], [str, tuple, tuple, tuple, list, list])
            self.assertEqual([type(one) for one in reread(text, edit)], [int, int, int, bool])
            self.assertEqual([type(one) for one in stays(text, edit)], [int, int])


if __name__ == "__main__":
    unittest.main()
