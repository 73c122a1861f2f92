"""Going through a content from left to right."""

from plainmark.autolinks import autolink_at
from plainmark.columns import WHITE
from plainmark.links import label_at, normalised, target_at
from plainmark.places import behind_all, is_escape, strings_in
from plainmark.references import reference_at
from plainmark.runs import built, run_at
from plainmark.tags import tag_at


class Bracket:
    """A "[" or "![" that is noted: its number, its place in the row, the place behind it."""

    def __init__(self, number, index, place, is_image):
        self.number = number
        self.index = index
        self.place = place
        self.is_image = is_image


class Scan:
    """A content that is gone through.

    The row has what was found ahead of the place, runs among it. Plain is the
    place from which on nothing but plain texts were found. Of the brackets that
    are noted those that are not done are kept; a "[" with a number below the
    bar is not active any more. Strings are those of backquotes: for each length
    the places of those that are not passed yet, the next one last.
    """

    def __init__(self, content, known):
        self.content = content
        self.known = known
        self.place = 0
        self.row = []
        self.plain = 0
        self.brackets = []
        self.noted = 0
        self.bar = 0
        strings = strings_in(content)
        self.strings = {length: strings[length][::-1] for length in strings}

    def put(self, one, end):
        """Put what was found, up to such a place, behind what is there."""
        self.row.append(one)
        self.place = end
        self.plain = end

    def put_text(self, words):
        """Put a text that is written so."""
        self.put(("text", words), self.place + len(words))

    def is_active(self, bracket):
        """Whether a bracket may become a link or an image."""
        return bracket.is_image or bracket.number >= self.bar


def scanned(content, known):
    """The tuple of inlines of a content."""
    scan = Scan(content, known)
    while scan.place < len(content):
        sign = content[scan.place]
        if sign in STEPS:
            step = STEPS[sign]
            step(scan)
        else:
            take_plain(scan)
    return built(scan.row)


def take_plain(scan):
    """Texts, without the white that stands ahead of a line feed."""
    content = scan.content
    end = scan.place + 1
    while end < len(content) and content[end] not in STEPS:
        end += 1
    words = content[scan.place:end]
    if content.startswith("\n", end):
        words = words.rstrip(WHITE)
    scan.row.append(("text", words))
    scan.place = end


def take_backslash(scan):
    """A text, an escaped one, or a hard break."""
    content, place = scan.content, scan.place
    if is_escape(content, place):
        scan.put(("text", content[place + 1]), place + 2)
    elif content.startswith("\n", place + 1):
        scan.put(("hard",), behind_all(WHITE, content, place + 2))
    else:
        scan.put_text("\\")


def take_backquotes(scan):
    """A code, or a string of backquotes."""
    content, place = scan.content, scan.place
    begin = behind_all("`", content, place)
    length = begin - place
    later = scan.strings.get(length, [])
    while later and later[-1] < begin:
        later.pop()
    if later:
        end = later[-1]
        scan.put(("code", code_text(content[begin:end])), end + length)
    else:
        scan.put_text("`" * length)


def code_text(words):
    """The text of a code that is written so."""
    words = words.replace("\n", " ")
    if words.startswith(" ") and words.endswith(" ") and words.strip(" ") != "":
        return words[1:-1]
    return words


def take_angle(scan):
    """A link of an address, raw HTML, or a text."""
    content, place = scan.content, scan.place
    link = autolink_at(content, place)
    end = tag_at(content, place)
    if link is not None:
        behind, destination, words = link
        scan.put(("link", destination, None, (("text", words),)), behind)
        scan.bar = scan.noted
    elif end is not None:
        scan.put(("html", content[place:end]), end)
    else:
        scan.put_text("<")


def take_reference(scan):
    """The text of a reference, or "&"."""
    reference = reference_at(scan.content, scan.place)
    if reference is None:
        scan.put_text("&")
    else:
        end, sign = reference
        scan.put(("text", sign), end)


def take_line_feed(scan):
    """A hard or a soft break.

    White that a break ahead of it has left out is not looked at again.
    """
    content, place = scan.content, scan.place
    word = "soft"
    if content[max(scan.plain, place - 2):place] == "  ":
        word = "hard"
    scan.put((word,), behind_all(WHITE, content, place + 1))


def take_run(scan):
    """A run."""
    end, run = run_at(scan.content, scan.place)
    scan.put(run, end)


def take_bracket(scan):
    """A "[", which is noted."""
    note(scan, "[", False)


def take_exclamation(scan):
    """A "![", which is noted, or a text."""
    if scan.content.startswith("![", scan.place):
        note(scan, "![", True)
    else:
        scan.put_text("!")


def note(scan, words, is_image):
    """Note a bracket, which is a text as long as it is no link."""
    index = len(scan.row)
    scan.put_text(words)
    scan.brackets.append(Bracket(scan.noted, index, scan.place, is_image))
    scan.noted += 1


def take_end(scan):
    """A "]": a link, an image, or a text."""
    if not scan.brackets:
        scan.put_text("]")
        return
    bracket = scan.brackets.pop()
    found = None
    if scan.is_active(bracket):
        found = found_behind(scan, bracket)
    if found is None:
        scan.put_text("]")
        return
    end, destination, title = found
    inner = built(scan.row[bracket.index + 1:])
    del scan.row[bracket.index:]
    if bracket.is_image:
        scan.put(("image", destination, title, inner), end)
    else:
        scan.put(("link", destination, title, inner), end)
        scan.bar = bracket.number


def found_behind(scan, bracket):
    """A tuple (place behind, destination, title) for the link of a bracket, or None."""
    content, end = scan.content, scan.place + 1
    target = target_at(content, end)
    if target is not None:
        return target
    label = label_at(content, end)
    if label is None:
        label = own_label(scan, bracket)
    if label is None:
        return None
    end, words = label
    meant = scan.known.get(normalised(words))
    if meant is None:
        return None
    destination, title = meant
    return (end, destination, title)


def own_label(scan, bracket):
    """A tuple (place behind, label's text) if a bracket and the "]" make a label, or None.

    As the text of a label has no brackets, none was noted behind this one then.
    """
    content, end = scan.content, scan.place + 1
    label = label_at(content, bracket.place - 1)
    if label is None or label[0] != end:
        return None
    if content.startswith("[]", end):
        return (end + 2, label[1])
    return label


STEPS = {
    "\\": take_backslash, "`": take_backquotes, "<": take_angle, "&": take_reference, "\n": take_line_feed,
    "*": take_run, "_": take_run, "[": take_bracket, "!": take_exclamation, "]": take_end,
}
