"""Lines of a text, and their columns.

A rest is what is left of a line: a tuple (text, column, held). It begins at
this column with as many blank columns as held, behind which the text stands.
"""

WHITE = " \t"
TAB_STOP = 4


def lines_of(text):
    """The list of the lines of a text."""
    lines = text.split("\n")
    if lines[-1] == "":
        del lines[-1]
    return lines


def is_blank(line):
    """Whether a line has nothing but white."""
    return line.strip(WHITE) == ""


def whole(line):
    """The rest of a whole line."""
    return (line, 0, 0)


def indent(rest):
    """The number of blank columns at the begin of a rest."""
    text, column, held = rest
    behind = column + held
    for sign in text:
        if sign not in WHITE:
            break
        behind += white_width(sign, behind)
    return behind - column


def taken(rest, many):
    """The rest behind so many blank columns of a rest."""
    text, column, held = rest
    behind = column + held
    place = 0
    while behind < column + many and place < len(text) and text[place] in WHITE:
        behind += white_width(text[place], behind)
        place += 1
    begin = min(column + many, behind)
    return (text[place:], begin, behind - begin)


def told(rest):
    """The text of a rest with its held blanks ahead."""
    text, _, held = rest
    return " " * held + text


def white_width(sign, column):
    """How many columns a blank or a tab takes that begins at a column."""
    if sign == "\t":
        return TAB_STOP - column % TAB_STOP
    return 1
