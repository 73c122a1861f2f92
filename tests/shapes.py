"""Short words for the blocks and inlines that tests ask for; and texts by chance."""

import random

BREAK = ("break",)
SOFT = ("soft",)
HARD = ("hard",)
PIECES = (
    "a", "b", "a", " ", "  ", "    ", "\n", "\n", "\n\n", "> ", ">", "- ", "-", "+ ", "* ", "1. ", "2) ", "#", "# ", "```", "~~~", "===", "---",
    "***", "*", "**", "_", "`", "[a]", "[b]", "[", "]", "](/u)", "![", "<b>", "<div>", "<!--", "-->", "<?", "\\", "\n[a]: /u\n", "&amp;", "<ab:c>",
    "[b]: <v> 't'\n", "1", "x. ", "'",
)


class NotEqual:
    """An object of a class of somebody else."""


def others():
    """Objects of the built-in types of Python, but strings, tuples and dicts, and of a class."""
    return [
        None, True, False, 0, 1, -1, 2, 10 ** 5000, 1.5, float("nan"), float("inf"), 1j, b"", b"a", [], ["a"], [()], {"a"},
        set(), frozenset(), frozenset({"a"}), range(3), range(0), bytearray(b"a"), memoryview(b"a"), slice(1), len, str, tuple,
        object, object(), Ellipsis, NotImplemented, NotEqual, NotEqual(), iter("a"), iter(()), zip(), map(str, ()),
        enumerate(()), reversed(()), (one for one in ()), lambda: None, ValueError(), type, property(), super, staticmethod(len),
    ]


def p(raw):
    return ("paragraph", raw)


def h(level, raw):
    return ("heading", level, raw)


def code(text, info=None):
    return ("code", text, info)


def html(text):
    return ("html", text)


def definition(label, destination="/u", title=None):
    return ("definition", label, destination, title)


def quote(*blocks):
    return ("quote", blocks)


def bullets(*items, sign="-"):
    """A tight list of items, each a tuple of blocks."""
    return ("list", sign, None, True, items)


def loose(*items, sign="-"):
    return ("list", sign, None, False, items)


def numbers(start, *items, sign="."):
    return ("list", sign, start, True, items)


def loose_numbers(start, *items, sign="."):
    return ("list", sign, start, False, items)


def t(words):
    return ("text", words)


def c(words):
    return ("code", words)


def raw(words):
    return ("html", words)


def em(*row):
    return ("emph", row)


def strong(*row):
    return ("strong", row)


def link(destination, *row, title=None):
    return ("link", destination, title, row)


def image(destination, *row, title=None):
    return ("image", destination, title, row)


def para(*row):
    return ("paragraph", row)


def text_para(words):
    return ("paragraph", (("text", words),))


def chance_texts(seed, many, pieces=PIECES, most=14):
    chance = random.Random(seed)
    for _ in range(many):
        yield "".join(chance.choice(pieces) for _ in range(chance.randint(0, most)))
