"""HTML: the kinds of its blocks, and raw HTML in a text."""

from plainmark.columns import is_blank
from plainmark.places import behind_all, behind_first, behind_gap, behind_sign

LETTERS = "abcdefghijklmnopqrstuvwxyzABCDEFGHIJKLMNOPQRSTUVWXYZ"
NAME_SIGNS = "abcdefghijklmnopqrstuvwxyzABCDEFGHIJKLMNOPQRSTUVWXYZ0123456789-"
KEY_SIGNS = "abcdefghijklmnopqrstuvwxyzABCDEFGHIJKLMNOPQRSTUVWXYZ0123456789_.:-"
NO_BARE_SIGNS = " \t\n\"'=<>`"

RAW_NAMES = ("script", "pre", "style", "textarea")
BLOCK_NAMES = (
    "address", "article", "aside", "base", "basefont", "blockquote", "body", "caption", "center",
    "col", "colgroup", "dd", "details", "dialog", "dir", "div", "dl", "dt", "fieldset",
    "figcaption", "figure", "footer", "form", "frame", "frameset", "h1", "h2", "h3", "h4", "h5",
    "h6", "head", "header", "hr", "html", "iframe", "legend", "li", "link", "main", "menu",
    "menuitem", "nav", "noframes", "ol", "optgroup", "option", "p", "param", "search", "section",
    "summary", "table", "tbody", "td", "tfoot", "th", "thead", "title", "tr", "track", "ul",
)

# The kinds that are not named here end ahead of a blank line.
ENDS = {
    1: ("</script>", "</pre>", "</style>", "</textarea>"),
    2: ("-->",),
    3: ("?>",),
    4: (">",),
    5: ("]]>",),
}


def html_kind(line):
    """The kind of the block of HTML that begins with a line, 0 if none does."""
    if not line.startswith("<"):
        return 0
    if begins_raw(line):
        return 1
    if line.startswith("<!--"):
        return 2
    if line.startswith("<?"):
        return 3
    if line.startswith("<!") and is_letter(line, 2):
        return 4
    if line.startswith("<![CDATA["):
        return 5
    if begins_block(line):
        return 6
    if is_lone_tag(line):
        return 7
    return 0


def html_ends(kind, line):
    """Whether a block of HTML of a kind ends in (6 and 7: ahead of) a line."""
    if kind in ENDS:
        small = line.lower()
        return any([end in small for end in ENDS[kind]])
    return is_blank(line)


def tag_at(text, place):
    """The place behind the raw HTML at a place of a text, or None."""
    if text.startswith("<!--", place):
        # Two signs further back than behind "<!--": so the end may share
        # these two, and "<!-->" and "<!--->" are found, too.
        return behind_first("-->", text, place + 2)
    if text.startswith("<?", place):
        return behind_first("?>", text, place + 2)
    if text.startswith("<![CDATA[", place):
        return behind_first("]]>", text, place + 9)
    if text.startswith("<!", place) and is_letter(text, place + 2):
        return behind_first(">", text, place + 3)
    if text.startswith("</", place):
        return closing_tag_at(text, place)
    if text.startswith("<", place):
        return open_tag_at(text, place)
    return None


def begins_raw(line):
    """Whether a line, with "<" at its begin, begins HTML of kind 1."""
    name, behind = name_and_behind(line, 1)
    return name in RAW_NAMES and (is_blank(behind[:1]) or behind.startswith(">"))


def begins_block(line):
    """Whether a line, with "<" at its begin, begins HTML of kind 6."""
    name, behind = name_and_behind(line, name_place(line))
    ended = is_blank(behind[:1]) or behind.startswith(">") or behind.startswith("/>")
    return name in BLOCK_NAMES and ended


def is_lone_tag(line):
    """Whether a line is HTML of kind 7: a tag with nothing but white behind."""
    name, _ = name_and_behind(line, name_place(line))
    end = tag_at(line, 0)
    return end is not None and name not in RAW_NAMES and is_blank(line[end:])


def name_place(line):
    """The place of the name in a line that begins with "<" or "</"."""
    if line.startswith("</"):
        return 2
    return 1


def name_and_behind(line, place):
    """The signs of a name at a place, in small letters, and what is behind them."""
    end = behind_all(NAME_SIGNS, line, place)
    return line[place:end].lower(), line[end:]


def open_tag_at(text, place):
    """The place behind the open tag at the place of a "<", or None."""
    end = name_at(text, place + 1)
    if end is None:
        return None
    behind = attribute_at(text, end)
    while behind is not None:
        end = behind
        behind = attribute_at(text, end)
    end = behind_gap(text, end)
    if text.startswith("/", end):
        end += 1
    return behind_sign(">", text, end)


def closing_tag_at(text, place):
    """The place behind the closing tag at the place of a "</", or None."""
    end = name_at(text, place + 2)
    if end is None:
        return None
    return behind_sign(">", text, behind_gap(text, end))


def attribute_at(text, place):
    """The place behind the attribute, its gap ahead included, or None."""
    begin = behind_gap(text, place)
    if begin == place:
        return None
    if not is_letter(text, begin) and text[begin:begin + 1] not in ("_", ":"):
        return None
    end = behind_all(KEY_SIGNS, text, begin)
    sign = behind_gap(text, end)
    if not text.startswith("=", sign):
        return end
    return value_at(text, behind_gap(text, sign + 1))


def value_at(text, place):
    """The place behind the value of an attribute at a place, or None."""
    if text.startswith("'", place):
        return behind_first("'", text, place + 1)
    if text.startswith('"', place):
        return behind_first('"', text, place + 1)
    end = place
    while end < len(text) and text[end] not in NO_BARE_SIGNS:
        end += 1
    if end == place:
        return None
    return end


def name_at(text, place):
    """The place behind the name at a place, or None."""
    if not is_letter(text, place):
        return None
    return behind_all(NAME_SIGNS, text, place)


def is_letter(text, place):
    """Whether a letter stands at a place of a text."""
    return place < len(text) and text[place] in LETTERS
