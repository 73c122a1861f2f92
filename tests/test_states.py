"""2.12 to 2.14: states, readers, and the errors of what reads blocks."""

import random
import unittest

from plainmark.blocks import Reader, next_state, outline, spans, state
from plainmark.columns import lines_of
from plainmark.errors import NoSource
from shapes import others

LINES = (
    "", "", "", "a", "b", "  ", "> a", ">", "> > b", "- a", "-", "  b", "    c", "1. x", "2) y", "\tt", "```", "~~~~", "> ```",
    "<div>", "<!--", "-->", "<b>", "# h", "***", "===", "---", "[a]: /u", "[b]:", "/v", "'t'", "- - c", "   - d", "> - e", "\\*",
)


def chance_texts(seed, many, most):
    chance = random.Random(seed)
    for _ in range(many):
        yield "".join(chance.choice(LINES) + "\n" for _ in range(chance.randint(0, most)))


class States(unittest.TestCase):
    def told(self, text, *entries):
        self.assertEqual(state(text), entries, text)

    def test_nothing_is_open(self):
        for text in ("", "\n", "  \n\t\n", "# a", "***", "a\n===", "a\n\n", "```\n```", "<?a?>", "<div>\n\n", "> a\n\n",
                     "    a\nb\n\n"):
            self.told(text)
            self.assertEqual(type(state(text)), tuple)

    def test_paragraphs(self):
        self.told("a", ("paragraph", "a"))
        self.told("a\nb\n", ("paragraph", "a\nb"))
        self.told("  a  \n\tb\t", ("paragraph", "a  \nb\t"))
        self.told("[a]: /u\n", ("paragraph", "[a]: /u"))
        self.told("# a\nb", ("paragraph", "b"))

    def test_fences(self):
        self.told("```", ("fence", "`", 3, 0))
        self.told("   ~~~~~ a\nb", ("fence", "~", 5, 3))
        self.told("a\n ````\n```\n", ("fence", "`", 4, 1))

    def test_code_by_indent(self):
        self.told("    a", ("indented",))
        self.told("\ta\n\n\n", ("indented",))
        self.told("    a\n# b")

    def test_html(self):
        for kind, line in ((1, "<pre>"), (2, "<!--"), (3, "<?"), (4, "<!a"), (5, "<![CDATA["), (6, "<div>"), (7, "<b>")):
            self.told(line + "\n", ("html", kind))
            self.told(line + "\n\n", *((("html", kind),) if kind < 6 else ()))

    def test_quotes(self):
        self.told(">", ("quote",))
        self.told("> a", ("quote",), ("paragraph", "a"))
        self.told("> > a\nb", ("quote",), ("quote",), ("paragraph", "a\nb"))
        self.told("> > a\n>", ("quote",))
        self.told("> # a", ("quote",))
        self.told("> ```", ("quote",), ("fence", "`", 3, 0))

    def test_items(self):
        self.told("-", ("list", "-"), ("item", 2, False))
        self.told("- a", ("list", "-"), ("item", 2, True), ("paragraph", "a"))
        self.told("- a\n\n", ("list", "-"), ("item", 2, True))
        self.told("-\n\n", ("list", "-"))
        self.told("-\n  a", ("list", "-"), ("item", 2, True), ("paragraph", "a"))
        self.told(" 12)   a", ("list", ")"), ("item", 7, True), ("paragraph", "a"))
        self.told("*      a", ("list", "*"), ("item", 2, True), ("indented",))
        self.told("- a\n-", ("list", "-"), ("item", 2, False))
        self.told("- # a", ("list", "-"), ("item", 2, True))
        self.told("- >", ("list", "-"), ("item", 2, True), ("quote",))
        self.told("- +", ("list", "-"), ("item", 2, True), ("list", "+"), ("item", 2, False))
        self.told("- +\n\n", ("list", "-"), ("item", 2, True), ("list", "+"))
        self.told("- a\n\nb", ("paragraph", "b"))
        self.told("- a\n# b")

    def test_within_one_another(self):
        self.told("> 1. a\n>    ~~~~ b\n", ("quote",), ("list", "."), ("item", 3, True), ("fence", "~", 4, 0))
        self.told("- > - a\nb", ("list", "-"), ("item", 2, True), ("quote",), ("list", "-"), ("item", 2, True),
                  ("paragraph", "a\nb"))

    def test_the_last_line_needs_no_line_feed(self):
        for text in chance_texts(1, 300, 6):
            self.assertEqual(state(text), state(text[:-1]) if not text.endswith("\n\n") else state(text))

    def test_kinds(self):
        for text in chance_texts(2, 300, 6):
            for entry in state(text):
                self.assertEqual(type(entry), tuple)
                for one, kind in zip(entry, {"item": (str, int, bool), "fence": (str, str, int, int),
                                             "html": (str, int)}.get(entry[0], (str, str))):
                    self.assertEqual(type(one), kind)


class LineByLine(unittest.TestCase):
    def test_next_state_against_state(self):
        for text in chance_texts(3, 2500, 9):
            told = ()
            lines = lines_of(text)
            for number, line in enumerate(lines):
                told = next_state(told, line)
                self.assertEqual(told, state("".join(one + "\n" for one in lines[:number + 1])), text)
            self.assertEqual(told, state(text))

    def test_next_state_of_each_entry(self):
        self.assertEqual(next_state((), "a"), (("paragraph", "a"),))
        self.assertEqual(next_state((("paragraph", "a"),), "b"), (("paragraph", "a\nb"),))
        self.assertEqual(next_state((("paragraph", "a"),), "==="), ())
        self.assertEqual(next_state((("paragraph", "[a]: /u"),), "==="), (("paragraph", "[a]: /u\n==="),))
        self.assertEqual(next_state((("fence", "~", 4, 2),), "~~~"), (("fence", "~", 4, 2),))
        self.assertEqual(next_state((("fence", "~", 4, 2),), "~~~~"), ())
        self.assertEqual(next_state((("indented",),), ""), (("indented",),))
        self.assertEqual(next_state((("indented",),), "   a"), (("paragraph", "a"),))
        self.assertEqual(next_state((("html", 3),), "?>"), ())
        self.assertEqual(next_state((("html", 6),), " "), ())
        self.assertEqual(next_state((("list", "-"),), "- a"), (("list", "-"), ("item", 2, True), ("paragraph", "a")))
        self.assertEqual(next_state((("list", "-"), ("item", 2, False)), ""), (("list", "-"),))
        self.assertEqual(next_state((("list", "-"), ("item", 2, True)), ""), (("list", "-"), ("item", 2, True)))
        self.assertEqual(next_state((("list", "-"), ("item", 2, False)), "  #"), (("list", "-"), ("item", 2, True)))
        self.assertEqual(next_state((("quote",), ("paragraph", "a")), "b"), (("quote",), ("paragraph", "a\nb")))

    def test_states_that_were_told_stay(self):
        ahead = (("list", "-"), ("item", 2, False))
        next_state(ahead, "  a")
        self.assertEqual(ahead, (("list", "-"), ("item", 2, False)))

    def test_the_same_state_means_the_same_for_what_follows(self):
        chance = random.Random(4)
        texts = {}
        for text in chance_texts(5, 3000, 4):
            texts.setdefault(state(text), []).append(text)
        for told, alike in texts.items():
            for one in alike[1:4]:
                behind = "".join(chance.choice(LINES) + "\n" for _ in range(5))
                self.assertEqual(state(one + behind), state(alike[0] + behind))
                self.assertEqual(self.begun(one, behind), self.begun(alike[0], behind), (one, alike[0], behind))

    def begun(self, ahead, behind):
        """The words, spans and contents of all blocks that begin behind a text."""
        begin = len(lines_of(ahead))
        found = []
        for place, word, first, last in spans(ahead + behind):
            if first >= begin:
                block = outline(ahead + behind)
                for index in place:
                    block = block[{"quote": 1, "list": 4}[block[0]]] if block and isinstance(block[0], str) else block
                    block = block[index]
                found.append((word, first - begin, last - begin, block))
        return found

    def test_what_has_ended_stays(self):
        chance = random.Random(6)
        for text in chance_texts(7, 1500, 5):
            behind = "".join(chance.choice(LINES) + "\n" for _ in range(4))
            if state(text) == ():
                self.assertEqual(outline(text + behind), outline(text) + outline(behind), (text, behind))


class Readers(unittest.TestCase):
    def test_a_new_reader(self):
        reader = Reader()
        self.assertEqual([reader.state(), reader.blocks()], [(), ()])

    def test_feeding(self):
        reader = Reader()
        self.assertIsNone(reader.feed("> a"))
        self.assertIsNone(reader.feed(line="b"))
        self.assertEqual(reader.state(), (("quote",), ("paragraph", "a\nb")))
        self.assertEqual(reader.blocks(), (("quote", (("paragraph", "a\nb"),)),))
        reader.feed("")
        reader.feed("- c")
        self.assertEqual(reader.blocks(), outline("> a\nb\n\n- c"))

    def test_against_outline_and_state(self):
        for text in chance_texts(8, 1500, 9):
            reader = Reader()
            lines = lines_of(text)
            for number, line in enumerate(lines):
                reader.feed(line)
                ahead = "".join(one + "\n" for one in lines[:number + 1])
                self.assertEqual(reader.state(), state(ahead), ahead)
                self.assertEqual(reader.blocks(), outline(ahead), ahead)

    def test_asking_changes_nothing(self):
        for text in chance_texts(9, 500, 9):
            asked, silent = Reader(), Reader()
            for line in lines_of(text):
                asked.blocks()
                asked.feed(line)
                silent.feed(line)
                asked.state()
                asked.blocks()
                self.assertEqual(asked.blocks(), asked.blocks())
            self.assertEqual([asked.state(), asked.blocks()], [silent.state(), silent.blocks()])

    def test_two_readers_by_turns(self):
        one, other = Reader(), Reader()
        texts = list(chance_texts(10, 400, 8))
        for text, second in zip(texts[::2], texts[1::2]):
            one, other = Reader(), Reader()
            lines, others_lines = lines_of(text), lines_of(second)
            for number in range(max(len(lines), len(others_lines))):
                if number < len(lines):
                    one.feed(lines[number])
                if number < len(others_lines):
                    other.feed(others_lines[number])
            self.assertEqual([one.state(), one.blocks()], [state(text), outline(text)])
            self.assertEqual([other.state(), other.blocks()], [state(second), outline(second)])

    def test_what_was_told_stays(self):
        reader = Reader()
        told = []
        for line in ("- a", "  b", "", "- ```", "  c", "- > d", "e", "    f", "[g]: /u"):
            reader.feed(line)
            told.append((reader.state(), reader.blocks(), repr(reader.state()), repr(reader.blocks())))
        for entries, blocks, entries_then, blocks_then in told:
            self.assertEqual([repr(entries), repr(blocks)], [entries_then, blocks_then])

    def test_a_reader_that_refused_a_line(self):
        for text in chance_texts(11, 200, 6):
            reader = Reader()
            for line in lines_of(text):
                for wrong in (None, 7, b"a", "x\ny", "\n", ["a"]):
                    with self.assertRaises(NoSource):
                        reader.feed(wrong)
                reader.feed(line)
                self.assertRaises(NoSource, reader.feed, "- \n")
            self.assertEqual([reader.state(), reader.blocks()], [state(text), outline(text)])


class Errors(unittest.TestCase):
    def place(self, call, *arguments):
        with self.assertRaises(NoSource) as caught:
            call(*arguments)
        return caught.exception.place

    def test_what_is_no_string(self):
        for thing in others() + [("a",), {"a": "b"}, {}, (), Reader(), NoSource(3)]:
            for call in (outline, spans, state, Reader().feed, lambda line: next_state((), line)):
                self.assertEqual(self.place(call, thing), -1)

    def test_a_line_with_a_line_feed(self):
        for line, place in (("\n", 0), ("a\n", 1), ("a\nb\n", 1), ("\n\n", 0), ("  > \n", 4), ("abc\n\n", 3)):
            self.assertEqual(self.place(Reader().feed, line), place)
            self.assertEqual(self.place(next_state, (), line), place)
            self.assertEqual(self.place(next_state, (("paragraph", "a"),), line), place)

    def test_arguments_by_name(self):
        self.assertEqual(outline(text="a"), (("paragraph", "a"),))
        self.assertEqual(spans(text="a"), [((0,), "paragraph", 0, 0)])
        self.assertEqual(state(text="a"), (("paragraph", "a"),))
        self.assertEqual(next_state(line="a", ahead=()), (("paragraph", "a"),))


if __name__ == "__main__":
    unittest.main()
