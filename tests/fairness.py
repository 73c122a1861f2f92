"""Which trees are fair (6.2), for the tests of plainmark.writing; and many trees, by chance."""

import random

from plainmark.reading import read
from plainmark.tags import html_kind

ALLOWED = "\t\n" + "".join(chr(code) for code in range(32, 127) if code != 37)
LETTERS_AND_FIGURES = "abcdefghijklmnopqrstuvwxyzABCDEFGHIJKLMNOPQRSTUVWXYZ0123456789"
BREAKS = ("soft", "hard")
RUNS = ("emph", "strong")


def is_indented(block):
    return block[0] == "code" and block[2] is None


def block_rows(row, is_tight=False):
    """All rows of blocks: (row, whether it is one of an item of a tight list)."""
    yield row, is_tight
    for block in row:
        if block[0] == "quote":
            yield from block_rows(block[1])
        if block[0] == "list":
            for item in block[4]:
                yield from block_rows(item, block[3])


def all_blocks(tree):
    return [block for row, _ in block_rows(tree) for block in row]


def inline_rows(row):
    yield row
    for inline in row:
        if inline[0] in RUNS:
            yield from inline_rows(inline[1])
        if inline[0] in ("link", "image"):
            yield from inline_rows(inline[3])


def inlines_of(block):
    return {"paragraph": block[1:2], "heading": block[2:3]}.get(block[0], ())


def all_inlines(block):
    return [inline for row in inlines_of(block) for inner in inline_rows(row) for inline in inner]


def is_long(block):
    return block[0] == "heading" and any(
        inline[0] in BREAKS or inline[0] == "html" and "\n" in inline[1] for inline in all_inlines(block))


def is_open(block):
    if block[0] in ("paragraph", "definition"):
        return True
    if block[0] == "quote":
        return len(block[1]) > 0 and is_open(block[1][-1])
    if block[0] == "list":
        return len(block[4][-1]) > 0 and is_open(block[4][-1][-1])
    return False


def interrupts(block):
    return block[0] == "list" and block[2] in (None, 1) and len(block[4][0]) > 0


def kind_of(block):
    return html_kind(block[1].split("\n")[0]) if block[0] == "html" else 0


def first(row):
    for ahead, behind in zip(row, row[1:]):
        if ahead[0] == behind[0] == "list" and ahead[1] == behind[1]:
            return False
        if is_indented(ahead) and is_indented(behind):
            return False
        if ahead[0] == "list" and is_indented(behind):
            if not ahead[4][-1] or is_indented(ahead[4][-1][0]) or behind[1][0] in " \t\n":
                return False
    for block in row:
        if is_indented(block):
            lines = block[1].split("\n")
            if not lines[0].strip(" \t") or not lines[-2].strip(" \t"):
                return False
    return True


def third(block):
    return block[0] != "list" or block[3] or len(block[4]) > 1 or len(block[4][0]) > 1


def fourth(row):
    for ahead, behind in zip(row, row[1:]):
        if kind_of(ahead) in (6, 7) or ahead[0] == behind[0] == "quote":
            return False
        if ahead[0] == "list" and is_indented(behind):
            return False
        if is_open(ahead):
            may = (
                behind[0] == "heading" and not is_long(behind) or behind[0] in ("break", "quote")
                or behind[0] == "code" and not is_indented(behind) or kind_of(behind) in range(1, 7)
                or interrupts(behind)
                or ahead[0] == "definition" and behind[0] in ("definition", "paragraph", "heading"))
            if not may:
                return False
    return True


def fifth(block):
    if block[0] != "list" or block[1] not in ("-", "*"):
        return True
    sign = block[1]
    for item in block[4]:
        if item and item[0][0] == "list" and item[0][1] == sign:
            second = item[0][4][0]
            if second and second[0][0] == "list" and second[0][1] == sign and not second[0][4][0]:
                return False
    return True


def sixth(block):
    if block[0] != "html":
        return True
    text = block[1]
    return (text[0] not in " \t\n" and read(text) == (block,)
            and read(text + "\na") == (block, ("paragraph", (("text", "a"),))))


def seventh(row):
    words = [inline[0] for inline in row]
    ends = words[:1] + words[-1:]
    beside = any(ahead in BREAKS and behind in BREAKS for ahead, behind in zip(words, words[1:]))
    return not beside and not any(word in BREAKS for word in ends)


def eighth(row):
    for ahead, behind in zip(row, row[1:]):
        if ahead[0] == behind[0] == "code":
            return False
    for inline in row:
        if inline[0] == "code" and "\n" in inline[1]:
            return False
        if inline[0] in RUNS and not is_fair_run(inline[1]):
            return False
    return True


def is_fair_run(row):
    if row[0][0] != "text" or row[-1][0] != "text":
        return False
    if row[0][1][0] not in LETTERS_AND_FIGURES or row[-1][1][-1] not in LETTERS_AND_FIGURES:
        return False
    for index in (0, len(row) - 1):
        beside = row[max(0, index - 1):index] + row[index + 1:index + 2]
        if len(row[index][1]) == 1 and any(one[0] in RUNS for one in beside):
            return False
    return True


def ninth(inline):
    if inline[0] != "html":
        return True
    wanted = (("paragraph", (("text", "a"), inline, ("text", "a"))),)
    return read("a" + inline[1] + "a") == wanted


def tenth(row, is_linked=False):
    for inline in row:
        if inline[0] == "link":
            if is_linked or not tenth(inline[3], True):
                return False
        elif inline[0] == "image" and not tenth(inline[3], is_linked):
            return False
        elif inline[0] in RUNS and not tenth(inline[1], is_linked):
            return False
    return True


def unfair(tree):
    """The numbers of the conditions of 6.2 that do not hold of a tree."""
    rows = list(block_rows(tree))
    blocks = all_blocks(tree)
    contents = [row for block in blocks for row in inlines_of(block)]
    inner = [row for content in contents for row in inline_rows(content)]
    held = {
        1: all(first(row) for row, _ in rows),
        2: not any(is_long(block) and block[1] > 2 for block in blocks),
        3: all(third(block) for block in blocks),
        4: all(fourth(row) for row, is_tight in rows if is_tight),
        5: all(fifth(block) for block in blocks),
        6: all(sixth(block) for block in blocks),
        7: all(seventh(row) for row in inner) and not any(row and row[0][0] == "html" for row in contents),
        8: all(eighth(row) for row in inner),
        9: all(ninth(inline) for row in inner for inline in row),
        10: all(tenth(row) for row in contents),
    }
    return [number for number in held if not held[number]]


def is_fair(tree):
    return unfair(tree) == []


BLOCK_HTML = (
    "<div>\n", "<b>\n", "</p\n", "<!-- a -->\n", "<!-- a\n\n  b\n\t\n-->\n", "<?x?>\n", "<?\n?>y\n", "<!A>\n",
    "<![CDATA[\n]]>\n", "<pre>\n\n</pre>\n", "<div>\n  *a*\n\t<p>\n", "<script>\n- a\n</script> x\n", "<a b='c'>  \n- x\n",
    "<div>\n> a\n", "<td\nx\n", "<b>\n", "</i>\n#\n",
)
INLINE_HTML = ("<b>", "</b>", "<a b='`'>", "<!-- * -->", "<?_?>", "<a\nb>", "<!A [ ]>", "<a b=\"'*\">", "<![CDATA[\n- a]]>",
               "<!-->", "<b/>", "<a b='\n# c'>", "<!--a\n    b-->", "<a  b =\nc>")
SIGNS = "aab1 *_[]()<>`\\!&#-+.=~:;\"'\t\n|{$,Z9/?@^}"


class Chance:
    """Trees by chance, most of them fair or nearly so."""

    def __init__(self, seed):
        self.random = random.Random(seed)

    def text(self, most=6):
        return "".join(self.random.choice(SIGNS) for _ in range(self.random.randint(1, most)))

    def run_row(self, depth, linked):
        """A row that begins and ends as an emph should."""
        row = list(self.row(depth, linked, self.random.randint(0, 3)))
        ends = [self.random.choice("ab1") + self.random.choice(("", "x", "*", ".a")) for _ in range(2)]
        if not row or row[0][0] == "text":
            row[:1] = [("text", ends[0] + (row[0][1] if row else ""))]
        else:
            row.insert(0, ("text", ends[0]))
        if row[-1][0] == "text":
            row[-1] = ("text", row[-1][1] + ends[1][::-1])
        else:
            row.append(("text", ends[1][::-1]))
        return tuple(row)

    def inline(self, depth, linked):
        pick = self.random.choice
        word = pick(("text", "text", "text", "code", "soft", "hard", "html", "emph", "strong", "emph", "strong", "link",
                     "image"))
        if depth <= 0 and word in ("emph", "strong", "link", "image"):
            word = "text"
        if word == "text":
            return ("text", self.text())
        if word == "code":
            return ("code", self.text().replace("\n", pick(" `")))
        if word in BREAKS:
            return (word,)
        if word == "html":
            return ("html", pick(INLINE_HTML))
        if word in RUNS:
            return (word, self.run_row(depth - 1, linked))
        if word == "link" and linked:
            return ("code", "x")
        title = pick((None, "", self.text()))
        row = self.row(depth - 1, linked or word == "link", self.random.randint(0, 3))
        return (word, pick(("", self.text(), "/u")), title, row)

    def row(self, depth, linked=False, many=None):
        row = []
        for _ in range(self.random.randint(1, 5) if many is None else many):
            one = self.inline(depth, linked)
            if row and (row[-1][0] == one[0] == "text" or row[-1][0] == one[0] == "code"):
                continue
            if one[0] in BREAKS and (not row or row[-1][0] in BREAKS):
                continue
            row.append(one)
        while row and row[-1][0] in BREAKS:
            row.pop()
        return tuple(row)

    def content(self, depth):
        row = self.row(depth)
        if not row or row[0][0] == "html":
            row = (("text", self.text()),) + (row if row and row[0][0] != "text" else ())
        return row

    def lines(self, blank):
        lines = []
        for _ in range(self.random.randint(1, 4)):
            line = self.text(8).replace("\n", "~~~")
            lines.append(self.random.choice(("", " ", line, line)) if blank else line)
        return "".join(line + "\n" for line in lines)

    def block(self, depth):
        pick = self.random.choice
        word = pick(("paragraph", "paragraph", "heading", "break", "code", "fence", "html", "definition", "quote", "list",
                     "list", "list"))
        if depth <= 0 and word in ("quote", "list"):
            word = "paragraph"
        if word == "paragraph":
            return ("paragraph", self.content(2))
        if word == "heading":
            return ("heading", self.random.randint(1, 6), pick(((), self.content(2))))
        if word == "break":
            return ("break",)
        if word == "code":
            return ("code", pick(("x\n", "\tx\n", "- a\n\n  b\n", " x\n", self.lines(False), self.lines(True))), None)
        if word == "fence":
            return ("code", pick(("", "x\n", self.lines(True))), pick(("", "py", self.text())))
        if word == "html":
            return ("html", pick(BLOCK_HTML))
        if word == "definition":
            return ("definition", pick(("a", "b c", "\\]", "*a*")), pick(("", "/u", self.text())),
                    pick((None, "", self.text())))
        if word == "quote":
            return ("quote", self.blocks(depth - 1))
        sign = pick(("-", "+", "*", ".", ")", "-", "*"))
        start = None if sign in "-+*" else pick((0, 1, 1, 2, 7, 10, 999999999))
        items = tuple(self.blocks(depth - 1) for _ in range(self.random.randint(1, 3)))
        return ("list", sign, start, pick((True, True, False)), items)

    def blocks(self, depth):
        return tuple(self.block(depth) for _ in range(self.random.choice((0, 1, 1, 1, 2, 2, 3))))


def trees(seed, many, depth=3):
    """Many trees by chance."""
    chance = Chance(seed)
    return [chance.blocks(depth) for _ in range(many)]


def fair_trees(seed, many, depth=3):
    """Many fair trees by chance."""
    chance = Chance(seed)
    found = []
    while len(found) < many:
        tree = chance.blocks(depth)
        if is_fair(tree):
            found.append(tree)
    return found
