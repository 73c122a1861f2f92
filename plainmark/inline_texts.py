"""Inlines written back to a content."""

from plainmark.places import PUNCTUATION, strings_in
from plainmark.rows import folded, rows_in_inline

# No backslash helps here: a backquote may end a code in spite of it, and the
# others are white.
BY_REFERENCE = "\t\n`"


def inline_text(row):
    """The content that is read as a row of inlines, if it can be written so."""
    return folded(row, rows_in_inline, row_text)


def row_text(row, inner):
    """The content of a row of inlines, given those of the rows in them."""
    pieces = []
    sign_ahead = ""
    for index, inline in enumerate(row):
        sign = ""
        if has_runs(inline):
            sign = sign_behind(sign_ahead)
            pieces.append(between_runs(inline, sign, inner[index][0]))
        elif inline[0] == "text":
            is_run_behind = index + 1 < len(row) and has_runs(row[index + 1])
            pieces.append(text_beside(inline[1], sign_ahead != "", is_run_behind))
        else:
            pieces.append(text_of_inline(inline, inner[index]))
        sign_ahead = sign
    return "".join(pieces)


def has_runs(inline):
    """Whether an inline is written with runs at both ends."""
    return inline[0] in ("emph", "strong")


def sign_behind(sign_ahead):
    """The sign of runs behind those of another sign ("" for none): rows of one would join."""
    if sign_ahead == "*":
        return "_"
    return "*"


def between_runs(inline, sign, content):
    """An emph or a strong with such a content."""
    run = sign
    if inline[0] == "strong":
        run = sign + sign
    return run + content + run


def text_beside(text, is_run_ahead, is_run_behind):
    """A text that stands beside runs, or not."""
    signs = [text_sign(sign) for sign in text]
    if text[0] == " " or is_run_ahead and is_word_sign(text[0]):
        signs[0] = reference(text[0])
    if text[-1] == " " or is_run_behind and is_word_sign(text[-1]):
        signs[-1] = reference(text[-1])
    return "".join(signs)


def is_word_sign(sign):
    """Whether runs beside a sign open or close by it."""
    return sign not in PUNCTUATION and sign not in BY_REFERENCE


def text_sign(sign):
    """A sign such that it is a text and nothing else."""
    if sign in BY_REFERENCE:
        return reference(sign)
    if sign in PUNCTUATION:
        return "\\" + sign
    return sign


def reference(sign):
    """The reference for a sign."""
    return f"&#{ord(sign)};"


def plain_text(text):
    """A text such that it decodes to this one, and has no white at its ends."""
    if text == "":
        return ""
    return text_beside(text, False, False)


def text_of_inline(inline, rows):
    """An inline that is no text, no emph and no strong, given the contents of the rows in it."""
    word = inline[0]
    if word == "soft":
        return "\n"
    if word == "hard":
        return "\\\n"
    if word == "html":
        return inline[1]
    if word == "code":
        return code_between(inline[1])
    link = "[" + rows[0] + "](" + target_text(inline[1], inline[2]) + ")"
    if word == "image":
        return "!" + link
    return link


def target_text(destination, title):
    """A destination, and perhaps a title."""
    target = "<" + plain_text(destination) + ">"
    if title is None:
        return target
    return target + ' "' + plain_text(title) + '"'


def code_between(text):
    """A code with such a text, between strings of backquotes that it does not have."""
    strings = strings_in(text)
    length = 1
    while length in strings:
        length += 1
    string = "`" * length
    if needs_blanks(text):
        return string + " " + text + " " + string
    return string + text + string


def needs_blanks(text):
    """Whether a code with such a text is told only by blanks at both its ends."""
    if text.startswith("`") or text.endswith("`"):
        return True
    return text.startswith(" ") and text.endswith(" ") and text.strip(" ") != ""
