"""The examples of the document that plainmark.blocks and all that rests on it answer."""

import doctest
import unittest

EXAMPLES = r"""
>>> from plainmark.blocks import outline, spans, state
>>> outline("> a\n===\nb\n---\n")
(('quote', (('paragraph', 'a\n===\nb'),)), ('break',))
>>> outline("[a]: /u\n===\n- [b]: <v> 't'\n\n  c\n  2. d\n")
(('definition', 'a', '/u', None), ('paragraph', '==='), ('list', '-', None, False, ((('definition', 'b', 'v', 't'), ('paragraph', 'c\n2. d')),)))
>>> outline("-\n\n  a\n")
(('list', '-', None, True, ((),)), ('paragraph', 'a'))
>>> spans("1) a\n   > b\n   >\n2) c")
[((0,), 'list', 0, 3), ((0, 0), 'item', 0, 2), ((0, 0, 0), 'paragraph', 0, 0), ((0, 0, 1), 'quote', 1, 2), ((0, 0, 1, 0), 'paragraph', 1, 1), ((0, 1), 'item', 3, 3), ((0, 1, 0), 'paragraph', 3, 3)]
>>> state("> 1. a\n>    ~~~~ b\n")
(('quote',), ('list', '.'), ('item', 3, True), ('fence', '~', 4, 0))
>>> from plainmark.inlines import inlines
>>> inlines("***a***")
(('emph', (('strong', (('text', 'a'),)),)),)
>>> inlines("*a**b*")
(('emph', (('text', 'a**b'),)),)
>>> inlines("**a*")
(('text', '*'), ('emph', (('text', 'a'),)))
>>> inlines("*[a*](b)")
(('text', '*'), ('link', 'b', None, (('text', 'a*'),)))
>>> inlines("[a](b c)", {"a": ("/u", "t")})
(('link', '/u', 't', (('text', 'a'),)), ('text', '(b c)'))
>>> inlines("[a][b]", {"a": ("/u", None)})
(('text', '[a][b]'),)
>>> inlines("`` a`b `` <ab:c> &amp;")
(('code', 'a`b'), ('text', ' '), ('link', 'ab:c', None, (('text', 'ab:c'),)), ('text', ' &'))
>>> from plainmark.reading import read
>>> read("> a\nb\n\n- c\n- d\n")
(('quote', (('paragraph', (('text', 'a'), ('soft',), ('text', 'b'))),)), ('list', '-', None, True, ((('paragraph', (('text', 'c'),)),), (('paragraph', (('text', 'd'),)),))))
>>> read("a\n---\n\n    b\n")
(('heading', 2, (('text', 'a'),)), ('code', 'b\n', None))
>>> read("[a]\n\n[a]: /u 't'\n")
(('paragraph', (('link', '/u', 't', (('text', 'a'),)),)), ('definition', 'a', '/u', 't'))
>>> from plainmark.pages import page
>>> page(read("1) *a*\n2) b"))
'<ol>\n<li><em>a</em></li>\n<li>b</li>\n</ol>\n'
>>> print(page((("list", "-", None, True, ((("paragraph", (("text", "a"),)), ("code", "<\n", "x y")), ())),)), end="")
<ul>
<li>a
<pre><code class="language-x">&lt;
</code></pre>
</li>
<li></li>
</ul>
>>> from plainmark.writing import trimmed, written
>>> trimmed("\\a \\* \\- b")
'\\a * - b'
>>> read(written(read("*a* **b**"))) == read("*a* **b**")
True
>>> from plainmark.edits import felt, reread, stays
>>> text = "a\n\nb\nc\n\n[d]\n\n[e]: /u\n"
>>> reread(text, (2, 1, ["    b"])), stays(text, (2, 1, ["    b"]))
((2, 5, 5, True), (1, 2))
>>> reread(text, (3, 1, ["~~~"])), stays(text, (3, 1, ["~~~"]))
((3, 8, 8, False), (1, 0))
>>> reread(text, (7, 1, ["[D]: /v"])), stays(text, (7, 1, ["[D]: /v"])), felt(text, (7, 1, ["[D]: /v"]))
((7, 8, 8, False), (3, 0), [2])
>>> from plainmark.tags import tag_at
>>> tag_at("a<b c = 'd'>e", 1)
12
>>> from plainmark.trees import is_tree
>>> is_tree((("paragraph", ()),))
False
"""


class Examples(unittest.TestCase):
    def test_examples(self):
        test = doctest.DocTestParser().get_doctest(EXAMPLES, {}, "examples", None, 0)
        self.assertGreater(len(test.examples), 25)
        report = []
        result = doctest.DocTestRunner(verbose=False).run(test, out=report.append)
        self.assertEqual(result.failed, 0, "".join(report))


if __name__ == "__main__":
    unittest.main()
