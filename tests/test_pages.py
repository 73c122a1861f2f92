"""Part 5: the page of a tree."""

import html.parser
import random
import unittest

from fairness import trees
from plainmark.blocks import Reader
from plainmark.errors import NoTree
from plainmark.pages import escaped, page, words
from plainmark.reading import read
from plainmark.trees import is_tree
from shapes import BREAK, HARD, SOFT, bullets, c, code, definition, em, h, image, link, loose, loose_numbers, numbers, others, para, quote
from shapes import chance_texts, raw, strong, t, text_para
from shapes import html as html_block

A, B = text_para("a"), text_para("b")


class Pages(unittest.TestCase):
    def told(self, block, wanted):
        self.assertEqual(page((block,)), wanted)
        self.assertEqual(page((BREAK, block, BREAK)), "<hr />\n" + wanted + "<hr />\n")
        self.assertEqual(page((quote(block),)), "<blockquote>\n" + wanted + "</blockquote>\n")


class Blocks(Pages):
    def test_documents(self):
        self.assertEqual(page(()), "")
        self.assertEqual(page((A, B)), "<p>a</p>\n<p>b</p>\n")
        self.assertEqual(page(tree=(A,)), "<p>a</p>\n")

    def test_quotes(self):
        self.told(quote(), "<blockquote>\n</blockquote>\n")
        self.told(quote(A, quote(B)), "<blockquote>\n<p>a</p>\n<blockquote>\n<p>b</p>\n</blockquote>\n</blockquote>\n")

    def test_headings(self):
        for level in range(1, 7):
            self.told(h(level, (t("a"), em(t("b")))), f"<h{level}>a<em>b</em></h{level}>\n")
            self.told(h(level, ()), f"<h{level}></h{level}>\n")

    def test_breaks(self):
        self.told(BREAK, "<hr />\n")

    def test_codes(self):
        self.told(code("a\n b\n", None), "<pre><code>a\n b\n</code></pre>\n")
        self.told(code("a\n", ""), "<pre><code>a\n</code></pre>\n")
        self.told(code("", ""), "<pre><code></code></pre>\n")
        self.told(code("<&>\"'\n", None), "<pre><code>&lt;&amp;&gt;&quot;'\n</code></pre>\n")

    def test_infos(self):
        for info, language in (("a", "a"), ("a b", "a"), ("a\tb", "a"), ("a\nb", "a"), ("a ", "a"), ("a-b.c", "a-b.c"), ("<&>\"'", "&lt;&amp;&gt;&quot;'"),
                               ("\"x y\"", "&quot;x"), ("{a}", "{a}")):
            self.told(code("x\n", info), f'<pre><code class="language-{language}">x\n</code></pre>\n')
            self.told(code("", info), f'<pre><code class="language-{language}"></code></pre>\n')
        for info in ("", " ", " a", "\ta", "\na", "  ", "\n"):
            self.told(code("x\n", info), "<pre><code>x\n</code></pre>\n")

    def test_html(self):
        self.told(html_block("<b>\n"), "<b>\n")
        self.told(html_block("<b>&amp;&\n\n<c>\n"), "<b>&amp;&\n\n<c>\n")
        self.told(html_block("\n"), "\n")

    def test_definitions(self):
        self.told(definition("a", "b", "c"), "")
        self.assertEqual(page((definition("a"), definition("b"))), "")
        self.told(quote(definition("a")), "<blockquote>\n</blockquote>\n")

    def test_paragraphs(self):
        self.told(A, "<p>a</p>\n")
        self.told(para(t("a"), SOFT, t("b")), "<p>a\nb</p>\n")


class Lists(Pages):
    def test_signs_and_starts(self):
        for sign in "-+*":
            self.told(bullets((A,), (B,), sign=sign), "<ul>\n<li>a</li>\n<li>b</li>\n</ul>\n")
        for sign in ".)":
            self.told(numbers(1, (A,), (B,), sign=sign), "<ol>\n<li>a</li>\n<li>b</li>\n</ol>\n")
            for start in (0, 2, 7, 999999999):
                self.told(numbers(start, (A,), sign=sign), f'<ol start="{start}">\n<li>a</li>\n</ol>\n')

    def test_loose_lists(self):
        self.told(loose((A,), (B,)), "<ul>\n<li>\n<p>a</p>\n</li>\n<li>\n<p>b</p>\n</li>\n</ul>\n")
        self.told(loose_numbers(0, (A, B)), '<ol start="0">\n<li>\n<p>a</p>\n<p>b</p>\n</li>\n</ol>\n')
        self.told(loose((), (A,)), "<ul>\n<li></li>\n<li>\n<p>a</p>\n</li>\n</ul>\n")

    def test_empty_items(self):
        self.told(bullets(()), "<ul>\n<li></li>\n</ul>\n")
        self.told(loose((), ()), "<ul>\n<li></li>\n<li></li>\n</ul>\n")
        self.told(bullets((definition("a"),)), "<ul>\n<li></li>\n</ul>\n")
        self.told(loose((definition("a"), definition("b")), ()), "<ul>\n<li></li>\n<li></li>\n</ul>\n")

    def test_blocks_of_tight_items(self):
        self.told(bullets((A, bullets((B,)))), "<ul>\n<li>a\n<ul>\n<li>b</li>\n</ul>\n</li>\n</ul>\n")
        self.told(bullets((bullets((A,)),)), "<ul>\n<li>\n<ul>\n<li>a</li>\n</ul>\n</li>\n</ul>\n")
        self.told(bullets((BREAK, A)), "<ul>\n<li>\n<hr />\na</li>\n</ul>\n")
        self.told(bullets((A, BREAK)), "<ul>\n<li>a\n<hr />\n</li>\n</ul>\n")
        self.told(bullets((A, BREAK, B)), "<ul>\n<li>a\n<hr />\nb</li>\n</ul>\n")
        self.told(bullets((A, B)), "<ul>\n<li>a\nb</li>\n</ul>\n")
        self.told(bullets((A, B, A)), "<ul>\n<li>a\nb\na</li>\n</ul>\n")
        self.told(bullets((code("x\n", ""), A)), "<ul>\n<li>\n<pre><code>x\n</code></pre>\na</li>\n</ul>\n")
        self.told(bullets((html_block("<b>\n"), A)), "<ul>\n<li>\n<b>\na</li>\n</ul>\n")
        self.told(bullets((h(1, ()),)), "<ul>\n<li>\n<h1></h1>\n</li>\n</ul>\n")

    def test_definitions_in_items(self):
        self.told(bullets((definition("a"), A)), "<ul>\n<li>a</li>\n</ul>\n")
        self.told(bullets((A, definition("a"))), "<ul>\n<li>a</li>\n</ul>\n")
        self.told(bullets((A, definition("a"), B)), "<ul>\n<li>a\nb</li>\n</ul>\n")
        self.told(bullets((definition("a"), BREAK)), "<ul>\n<li>\n<hr />\n</li>\n</ul>\n")
        self.told(loose((definition("a"), A)), "<ul>\n<li>\n<p>a</p>\n</li>\n</ul>\n")

    def test_quotes_in_tight_items(self):
        self.told(bullets((quote(A),)), "<ul>\n<li>\n<blockquote>\n<p>a</p>\n</blockquote>\n</li>\n</ul>\n")
        self.told(bullets((quote(A), B)), "<ul>\n<li>\n<blockquote>\n<p>a</p>\n</blockquote>\nb</li>\n</ul>\n")
        self.told(bullets((quote(bullets((A,))),)),
                  "<ul>\n<li>\n<blockquote>\n<ul>\n<li>a</li>\n</ul>\n</blockquote>\n</li>\n</ul>\n")

    def test_lists_of_both_sorts(self):
        self.told(bullets((A, loose((B,), ()))), "<ul>\n<li>a\n<ul>\n<li>\n<p>b</p>\n</li>\n<li></li>\n</ul>\n</li>\n</ul>\n")
        self.told(loose((A, bullets((B,)))), "<ul>\n<li>\n<p>a</p>\n<ul>\n<li>b</li>\n</ul>\n</li>\n</ul>\n")

    def test_paragraphs_that_end_with_a_line_feed(self):
        for inline, told in ((SOFT, "\n"), (HARD, "<br />\n"), (raw("<b>\n"), "<b>\n"), (t("x\n"), "x\n")):
            self.told(bullets((para(c("a"), inline), BREAK)), f"<ul>\n<li><code>a</code>{told}<hr />\n</li>\n</ul>\n")
            self.told(bullets((para(c("a"), inline), B)), f"<ul>\n<li><code>a</code>{told}b</li>\n</ul>\n")
            self.told(bullets((para(c("a"), inline),)), f"<ul>\n<li><code>a</code>{told}</li>\n</ul>\n")

    def test_the_example(self):
        self.assertEqual(page((bullets((A, code("<\n", "x y")), ()),)),
                         "<ul>\n<li>a\n<pre><code class=\"language-x\">&lt;\n</code></pre>\n</li>\n<li></li>\n</ul>\n")


class Inlines(unittest.TestCase):
    def told(self, wanted, *row):
        self.assertEqual(page((para(*row),)), f"<p>{wanted}</p>\n")
        self.assertEqual(page((h(2, row),)), f"<h2>{wanted}</h2>\n")
        self.assertEqual(page((bullets((para(*row),)),)), f"<ul>\n<li>{wanted}</li>\n</ul>\n")

    def test_each_inline(self):
        self.told("a b", t("a b"))
        self.told("<code>a</code>", c("a"))
        self.told("a\nb", t("a"), SOFT, t("b"))
        self.told("a<br />\nb", t("a"), HARD, t("b"))
        self.told("<b c='\"&'>", raw("<b c='\"&'>"))
        self.told("<em>a</em>", em(t("a")))
        self.told("<strong>a</strong>", strong(t("a")))
        self.told("<em>a<strong><em>b</em></strong></em>", em(t("a"), strong(em(t("b")))))

    def test_links(self):
        self.told('<a href="u">a<em>b</em></a>', link("u", t("a"), em(t("b"))))
        self.told('<a href="u" title="t">a</a>', link("u", t("a"), title="t"))
        self.told('<a href="u">a</a>', link("u", t("a"), title=""))
        self.told('<a href=""></a>', link(""))
        self.told('<a href="u"><img src="v" alt="a" /></a>', link("u", image("v", t("a"))))

    def test_images(self):
        self.told('<img src="u" alt="a" />', image("u", t("a")))
        self.told('<img src="u" alt="a" title="t" />', image("u", t("a"), title="t"))
        self.told('<img src="u" alt="a" />', image("u", t("a"), title=""))
        self.told('<img src="" alt="" />', image(""))
        self.told('<img src="u" alt="a b c defg" />', image("u", t("a"), SOFT, c("b"), HARD, em(t("c "), strong(t("d"))), raw("<x>"),
                                                         link("v", t("e"), title="y"), image("w", t("f"), em(t("g")), title="z")))

    def test_escaped_signs(self):
        told = "&amp;&lt;&gt;&quot;'"
        signs = "&<>\"'"
        self.told(told, t(signs))
        self.told(f"<code>{told}</code>", c(signs))
        self.told(f'<a href="{told}" title="{told}">{told}</a>', link(signs, t(signs), title=signs))
        self.told(f'<img src="{told}" alt="{told}{told}" title="{told}" />', image(signs, t(signs), c(signs), title=signs))
        self.told("&amp;amp;", t("&amp;"))


class Functions(unittest.TestCase):
    def test_escaped(self):
        for text, told in (("", ""), ("a b\n\t", "a b\n\t"), ("&", "&amp;"), ("<", "&lt;"), (">", "&gt;"), ('"', "&quot;"), ("'", "'"),
                           ("&lt;", "&amp;lt;"), ("<a b=\"c\">&\\`", "&lt;a b=&quot;c&quot;&gt;&amp;\\`"), ("&&", "&amp;&amp;")):
            self.assertEqual(escaped(text), told)
            self.assertEqual(escaped(text=text), told)
        others_signs = "".join(chr(number) for number in range(32, 127) if chr(number) not in "&<>\"%")
        self.assertEqual(escaped(others_signs), others_signs)

    def test_words(self):
        self.assertEqual(words(()), "")
        self.assertEqual(words((t("a"),)), "a")
        self.assertEqual(words((t("a<"), c("`b&"))), "a<`b&")
        self.assertEqual(words((SOFT, HARD, SOFT)), "   ")
        self.assertEqual(words((raw("<b>"), t("a"), raw("</b>"))), "a")
        self.assertEqual(words((em(t("a"), strong(c("b"))), link("u", t("c"), title="t"), image("v", t("d"), image("w", t("e"))))), "abcde")
        self.assertEqual(words((link("u"), image("u"))), "")
        self.assertEqual(words(row=(em(SOFT),)), " ")
        row = (t("a"),)
        for _ in range(98):
            row = (image("u", *row, t("b") if row[-1][0] != "text" else SOFT),)
        self.assertEqual(words(row), "a " + "b" * 97)

    def test_what_is_no_tree(self):
        for thing in others() + ["", "a", [], [BREAK], {}, ((),), ("break",), ("", ), (("html", "<b>"),), (para(),), (h(7, ()),), Reader(), NoTree(),
                                 (para(t("a"), t("b")),), (para(link("", link(""))),), (code("a", ""),)]:
            self.assertRaises(NoTree, page, thing)
        deep = ()
        for _ in range(101):
            deep = (quote(*deep),)
        self.assertRaises(NoTree, page, deep)
        self.assertEqual(page(deep[0][1][0][1]).count("<blockquote>"), 99)

    def test_deep_trees(self):
        row = (t("a"),)
        for _ in range(98):
            row = (em(*row),)
        self.assertEqual(page((para(*row),)), "<p>" + "<em>" * 98 + "a" + "</em>" * 98 + "</p>\n")
        blocks = ()
        for _ in range(99):
            blocks = (bullets(blocks),)
        self.assertEqual(page(blocks).count("<li>"), 99)


class Tags(html.parser.HTMLParser):
    """Checks that each "<" begins a tag that 5.2 to 5.4 tell, and that tags close in turn."""

    NAMES = {"blockquote", "ul", "ol", "li", "h1", "h2", "h3", "h4", "h5", "h6", "pre", "code", "p", "em", "strong", "a"}

    def __init__(self):
        super().__init__()
        self.many = 0
        self.opened = []

    def handle_starttag(self, tag, attributes):
        self.many += 1
        assert tag in self.NAMES, tag
        self.opened.append(tag)

    def handle_startendtag(self, tag, attributes):
        self.many += 1
        assert tag in ("hr", "br", "img"), tag

    def handle_endtag(self, tag):
        self.many += 1
        assert self.opened.pop() == tag, tag


class Facts(unittest.TestCase):
    def many_trees(self):
        found = [tree for tree in trees(31, 1500) if is_tree(tree)]
        return found + [read(text) for text in chance_texts(32, 1500)]

    def test_the_page_of_two_documents(self):
        found = self.many_trees()
        for tree, other in zip(found, found[1:]):
            self.assertEqual(page(tree + other), page(tree) + page(other))

    def test_each_block_ends_with_a_line_feed(self):
        for tree in self.many_trees():
            for block in tree:
                told = page((block,))
                self.assertTrue(told == "" if block[0] == "definition" else told.endswith("\n"), block)

    def test_tags(self):
        many = 0
        for tree in self.many_trees():
            if "'html'" not in repr(tree):
                told = page(tree)
                tags = Tags()
                tags.feed(told)
                tags.close()
                self.assertEqual(tags.opened, [])
                self.assertEqual(tags.many, told.count("<"), told)
                many += 1
        self.assertGreater(many, 1000)

    def test_a_definition_more(self):
        chance = random.Random(33)
        for tree in self.many_trees():
            place = chance.randint(0, len(tree))
            more = tree[:place] + (definition("x", "y", "z"),) + tree[place:]
            self.assertEqual(page(more), page(tree))
            for sort in (bullets, loose):
                self.assertEqual(page((sort(more),)), page((sort(tree),)))

    def test_another_info_behind_its_first_white(self):
        for info, other in (("a", "a b"), ("a b", "a c"), ("a\tb", "a\n"), (" a", ""), ("", " b"), ("\n", "\t")):
            self.assertEqual(page((code("x\n", info),)), page((code("x\n", other),)))
        self.assertNotEqual(page((code("x\n", "a"),)), page((code("x\n", "b"),)))

    def test_unlike_trees_with_one_page(self):
        self.assertEqual(page(read("a\nb")), page(read("a&#10;b")))
        self.assertNotEqual(read("a\nb"), read("a&#10;b"))

    def test_pages_of_texts(self):
        for text, told in (("# a\n\n*b* c", "<h1>a</h1>\n<p><em>b</em> c</p>\n"), ("1) *a*\n2) b", "<ol>\n<li><em>a</em></li>\n<li>b</li>\n</ol>\n"),
                           ("> a\n\n---\n", "<blockquote>\n<p>a</p>\n</blockquote>\n<hr />\n"), ("- a\n\n- b", page((loose((A,), (B,)),)))):
            self.assertEqual(page(read(text)), told)


if __name__ == "__main__":
    unittest.main()
