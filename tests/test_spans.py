"""2.10, 2.11: the lines of blocks, and which lists are tight."""

import unittest

from plainmark.blocks import outline, spans
from shapes import BREAK, bullets, code, definition, html, loose, loose_numbers, numbers, p, quote


class Spans(unittest.TestCase):
    def told(self, text, *rows):
        """Each row is a text of the place, the word and the lines: "0.1 item 2-3"."""
        wanted = []
        for row in rows:
            place, word, lines = row.split()
            first, _, last = lines.partition("-")
            wanted.append((tuple(int(index) for index in place.split(".")), word, int(first), int(last or first)))
        self.assertEqual(spans(text), wanted, text)

    def test_nothing(self):
        self.told("")
        self.told("\n\n  \n")

    def test_leaves(self):
        self.told("a", "0 paragraph 0")
        self.told("\na\nb\n\nc\n", "0 paragraph 1-2", "1 paragraph 4")
        self.told("# a\n## b\n\n***", "0 heading 0", "1 heading 1", "2 break 3")
        self.told("a\n===\nb\nc\n---\n", "0 heading 0-1", "1 heading 2-4")

    def test_fences(self):
        self.told("```\na\n```\nb", "0 code 0-2", "1 paragraph 3")
        self.told("```\n```", "0 code 0-1")
        self.told("```", "0 code 0")
        self.told("a\n```\n\n\n", "0 paragraph 0", "1 code 1-3")
        self.told("> ```\n> a\n\nb", "0 quote 0-1", "0.0 code 0-1", "1 paragraph 3")

    def test_codes_by_indent(self):
        self.told("    a", "0 code 0")
        self.told("\n    a\n\n    b\n\n\n", "0 code 1-3")
        self.told("    a\n\n      \n\nb", "0 code 0", "1 paragraph 4")
        self.told("    a\n     \n    b\n", "0 code 0-2")

    def test_html(self):
        self.told("<!--\n\n-->\n\na", "0 html 0-2", "1 paragraph 4")
        self.told("<!--\n\n\n", "0 html 0-2")
        self.told("<div>\na\n\n\n", "0 html 0-1")
        self.told("<?a?>\n\n<b>\n", "0 html 0", "1 html 2")

    def test_definitions(self):
        self.told("[a]: /u", "0 definition 0")
        self.told("\n[a]:\n/u\n't'\n[b]: /v\nc\nd", "0 definition 1-3", "1 definition 4", "2 paragraph 5-6")
        self.told("[a]: /u\n'x\n\ny'", "0 definition 0", "1 paragraph 1", "2 paragraph 3")
        self.told("[a]: /u 'x\ny'\nb\n---", "0 definition 0-1", "1 heading 2-3")
        self.told("[a\nb]: /u  \n", "0 definition 0-1")
        self.told("> [a]:\n/u\nb", "0 quote 0-2", "0.0 definition 0-1", "0.1 paragraph 2")

    def test_quotes(self):
        self.told("> a", "0 quote 0", "0.0 paragraph 0")
        self.told(">", "0 quote 0")
        self.told(">\n>\n", "0 quote 0-1")
        self.told("> a\n>\n>\n\n", "0 quote 0-2", "0.0 paragraph 0")
        self.told(">\n> a\n>\n> b", "0 quote 0-3", "0.0 paragraph 1", "0.1 paragraph 3")
        self.told("> a\nb\n\nc", "0 quote 0-1", "0.0 paragraph 0-1", "1 paragraph 3")
        self.told("> > a\nb\n> c\n>\n", "0 quote 0-3", "0.0 quote 0-2", "0.0.0 paragraph 0-2")
        self.told("> # a\nb", "0 quote 0", "0.0 heading 0", "1 paragraph 1")
        self.told("> > a\n>\n> b", "0 quote 0-2", "0.0 quote 0", "0.0.0 paragraph 0", "0.1 paragraph 2")
        self.told(">     a\n>\n>\n", "0 quote 0-2", "0.0 code 0")

    def test_items(self):
        self.told("- a", "0 list 0", "0.0 item 0", "0.0.0 paragraph 0")
        self.told("-", "0 list 0", "0.0 item 0")
        self.told("-\n\n\n", "0 list 0", "0.0 item 0")
        self.told("-\n  a\n", "0 list 0-1", "0.0 item 0-1", "0.0.0 paragraph 1")
        self.told("- a\n\n\n", "0 list 0", "0.0 item 0", "0.0.0 paragraph 0")
        self.told("- a\nb\n- c\n\n  d\n\n", "0 list 0-4", "0.0 item 0-1", "0.0.0 paragraph 0-1", "0.1 item 2-4",
                  "0.1.0 paragraph 2", "0.1.1 paragraph 4")
        self.told("- a\n\n\n- b", "0 list 0-3", "0.0 item 0", "0.0.0 paragraph 0", "0.1 item 3", "0.1.0 paragraph 3")
        self.told("- ```\n\n\n", "0 list 0-2", "0.0 item 0-2", "0.0.0 code 0-2")
        self.told("-     a\n\n\n", "0 list 0", "0.0 item 0", "0.0.0 code 0")
        self.told("- > a\n  >\n\n", "0 list 0-1", "0.0 item 0-1", "0.0.0 quote 0-1", "0.0.0.0 paragraph 0")
        self.told("- a\n+ b", "0 list 0", "0.0 item 0", "0.0.0 paragraph 0", "1 list 1", "1.0 item 1", "1.0.0 paragraph 1")

    def test_containers_within_one_another(self):
        self.told("- - a\n  - b\n\n  c\n- d", "0 list 0-4", "0.0 item 0-3", "0.0.0 list 0-1", "0.0.0.0 item 0",
                  "0.0.0.0.0 paragraph 0", "0.0.0.1 item 1", "0.0.0.1.0 paragraph 1", "0.0.1 paragraph 3", "0.1 item 4",
                  "0.1.0 paragraph 4")
        self.told("> - a\nb\n>\n> c", "0 quote 0-3", "0.0 list 0-1", "0.0.0 item 0-1", "0.0.0.0 paragraph 0-1",
                  "0.1 paragraph 3")
        self.told("1. > a\n   > b\nc\n2. d", "0 list 0-3", "0.0 item 0-2", "0.0.0 quote 0-2", "0.0.0.0 paragraph 0-2",
                  "0.1 item 3", "0.1.0 paragraph 3")

    def test_places_lead_into_the_outline(self):
        text = "> 1. a\n>    - b\n>\n>      [c]: /u\n>      d\n> 2. ```\n\n- e\n- > f\n  > # g\n"
        for place, word, _, _ in spans(text):
            block = outline(text)
            for index in place:
                if block and block[0] == "quote":
                    block = block[1]
                elif block and block[0] == "list":
                    block = block[4]
                block = block[index]
            if word == "item":
                self.assertTrue(all(isinstance(one, tuple) for one in block))
            else:
                self.assertEqual(block[0], word)

    def test_the_list_is_new_each_time(self):
        first = spans("- a")
        first.append(None)
        first[0] = None
        self.told("- a", "0 list 0", "0.0 item 0", "0.0.0 paragraph 0")
        self.assertEqual(type(spans("")), list)
        self.assertEqual([type(one) for one in spans("# a")[0]], [tuple, str, int, int])


class Tight(unittest.TestCase):
    def told(self, text, *blocks):
        self.assertEqual(outline(text), blocks, text)

    def test_gaps_between_items(self):
        self.told("- a\n- b", bullets((p("a"),), (p("b"),)))
        self.told("- a\n\n- b", loose((p("a"),), (p("b"),)))
        self.told("- a\n- b\n\n\n- c", loose((p("a"),), (p("b"),), (p("c"),)))
        self.told("1. a\n \n1. b", loose_numbers(1, (p("a"),), (p("b"),)))
        self.told("-\n\n-", loose((), ()))
        self.told("-\n-", bullets((), ()))
        self.told("- # a\n- # b\n", bullets((("heading", 1, "a"),), (("heading", 1, "b"),)))

    def test_gaps_between_blocks_of_an_item(self):
        self.told("- a\n\n  b", loose((p("a"), p("b"))))
        self.told("- a\n- b\n\n  c\n- d", loose((p("a"),), (p("b"), p("c")), (p("d"),)))
        self.told("- a\n  > b\n  ***", bullets((p("a"), quote(p("b")), BREAK)))
        self.told("- a\n\n  > b\n  ***", loose((p("a"), quote(p("b")), BREAK)))
        self.told("- ***\n\n  ***", loose((BREAK, BREAK)))
        self.told("- ***\n  ***", bullets((BREAK, BREAK)))

    def test_definitions_count_like_other_blocks(self):
        self.told("- [a]: /u\n  b", bullets((definition("a"), p("b"))))
        self.told("- [a]: /u\n\n  b", loose((definition("a"), p("b"))))
        self.told("- a\n\n  [b]: /u", loose((p("a"), definition("b"))))
        self.told("- a\n- b\n\n  [c]: /u\n- d", loose((p("a"),), (p("b"), definition("c")), (p("d"),)))

    def test_blank_lines_in_a_block(self):
        self.told("- ```\n  a\n\n\n  b\n  ```\n- c", bullets((code("a\n\n\nb\n", ""),), (p("c"),)))
        self.told("- ```\n\n- c", bullets((code("\n", ""),), (p("c"),)))
        self.told("-     a\n\n      b\n- c", bullets((code("a\n\nb\n"),), (p("c"),)))
        self.told("- <!--\n\n  -->\n- a", bullets((html("<!--\n\n-->\n"),), (p("a"),)))
        self.told("- <!--\n\n- a", bullets((html("<!--\n\n"),), (p("a"),)))

    def test_blank_lines_behind_a_block(self):
        self.told("-     a\n\n- b", loose((code("a\n"),), (p("b"),)))
        self.told("- <div>\n\n- a", loose((html("<div>\n"),), (p("a"),)))
        self.told("- # a\n\n  b", loose((("heading", 1, "a"), p("b"))))

    def test_blank_lines_behind_the_sign_of_a_quote(self):
        self.told("- > a\n  >\n  > b\n- c", bullets((quote(p("a"), p("b")),), (p("c"),)))
        self.told("- > a\n  >\n- b", bullets((quote(p("a")),), (p("b"),)))
        self.told("- a\n  > b\n  >\n  # c", bullets((p("a"), quote(p("b")), ("heading", 1, "c"))))
        self.told("- > a\n\n  b", loose((quote(p("a")), p("b"))))
        self.told("> - a\n>\n> - b", quote(loose((p("a"),), (p("b"),))))

    def test_blank_lines_at_the_end(self):
        self.told("- a\n- b\n\n\n", bullets((p("a"),), (p("b"),)))
        self.told("- a\n- b\n\nc", bullets((p("a"),), (p("b"),)), p("c"))
        self.told("* a\n*\n\n* c", loose((p("a"),), (), (p("c"),), sign="*"))

    def test_lists_in_lists(self):
        self.told("- a\n  - b\n\n    c\n- d", bullets((p("a"), loose((p("b"), p("c")))), (p("d"),)))
        self.told("- a\n\n  - b\n  - c\n\n- d", loose((p("a"), bullets((p("b"),), (p("c"),))), (p("d"),)))
        self.told("- a\n  - b\n\n- c", loose((p("a"), bullets((p("b"),))), (p("c"),)))
        self.told("- a\n  - b\n\n\n", bullets((p("a"), bullets((p("b"),)))))
        self.told("- - a\n\n  - b\n- c", bullets((loose((p("a"),), (p("b"),)),), (p("c"),)))
        self.told("- - a\n\n    b", bullets((loose((p("a"), p("b"))),)))
        self.told("- 1. a\n\n  b", loose((numbers(1, (p("a"),)), p("b"))))


if __name__ == "__main__":
    unittest.main()
