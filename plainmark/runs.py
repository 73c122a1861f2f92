"""Runs of "*" and "_" in a content, and which of them pair."""

from plainmark.places import INLINE_WHITE, PUNCTUATION, behind_all


class Run:
    """A run, with the number of its characters that are left.

    The words that it ends stand ahead of what is left of it, the first one
    first; those that it begins behind it, the first one last.
    """

    def __init__(self, sign, length, opens, closes):
        self.sign = sign
        self.length = length
        self.left = length
        self.opens = opens
        self.closes = closes
        self.ended = []
        self.begun = []

    def is_both(self):
        """Whether it opens and closes."""
        return self.opens and self.closes


def run_at(content, place):
    """A tuple (place behind, run) for the run at a place."""
    sign = content[place]
    end = behind_all(sign, content, place)
    ahead = kind_of(content[place - 1:place])
    behind = kind_of(content[end:end + 1])
    left = behind != "white" and (behind != "punctuation" or ahead != "word")
    right = ahead != "white" and (ahead != "punctuation" or behind != "word")
    opens, closes = left, right
    if sign == "_":
        opens = left and (not right or ahead == "punctuation")
        closes = right and (not left or behind == "punctuation")
    return (end, Run(sign, end - place, opens, closes))


def kind_of(sign):
    """What stands beside a run: white (also ahead of and behind all), punctuation or a word."""
    if sign == "" or sign in INLINE_WHITE:
        return "white"
    if sign in PUNCTUATION:
        return "punctuation"
    return "word"


def pair(runs):
    """Let runs begin and end what they pair to.

    Those that may be partners wait on stacks, one for each sort of them. As
    the sort tells all that matters to whether two may pair, the nearest partner
    is the last one of some stack.
    """
    stacks = {}
    for number, run in enumerate(runs):
        while run.closes and run.left > 0:
            stack = stack_of_partner(run, stacks)
            if stack is None:
                break
            partner = stack[-1]
            for other in list(stacks.values()):
                while other and other[-1] > partner:
                    other.pop()
            take_both(runs[partner], run)
            if runs[partner].left == 0:
                stack.pop()
        if run.opens and run.left > 0:
            stacks.setdefault(sort_of(run), []).append(number)


def sort_of(run):
    """What of a run matters to its partners."""
    return (run.sign, run.is_both(), run.length % 3)


def stack_of_partner(run, stacks):
    """The stack with the nearest partner of a run as its last one, or None."""
    nearest = None
    for sort, stack in stacks.items():
        if stack and may_pair(sort, sort_of(run)) and (nearest is None or stack[-1] > nearest[-1]):
            nearest = stack
    return nearest


def may_pair(sort, other):
    """Whether runs of two sorts may pair."""
    sign, both, rest = sort
    other_sign, other_both, other_rest = other
    if sign != other_sign:
        return False
    return not (both or other_both) or (rest + other_rest) % 3 != 0 or rest == 0


def take_both(partner, run):
    """Take characters of two runs that pair."""
    if partner.left >= 2 and run.left >= 2:
        word, many = "strong", 2
    else:
        word, many = "emph", 1
    partner.left -= many
    run.left -= many
    partner.begun.append(word)
    run.ended.append(word)


def built(row):
    """The tuple of inlines of a row of inlines and runs, which are paired now."""
    pair([one for one in row if isinstance(one, Run)])
    open_rows = [[]]
    for one in row:
        if isinstance(one, Run):
            for word in one.ended:
                inner = joined(open_rows.pop())
                open_rows[-1].append((word, inner))
            open_rows[-1].append(("text", one.sign * one.left))
            open_rows.extend([[] for _ in one.begun])
        else:
            open_rows[-1].append(one)
    return joined(open_rows[0])


def joined(row):
    """The tuple of a row of inlines, with neighbouring texts joined, without empty ones."""
    made = []
    texts = []
    for one in row:
        if one[0] == "text":
            texts.append(one[1])
        else:
            add_text(texts, made)
            texts = []
            made.append(one)
    add_text(texts, made)
    return tuple(made)


def add_text(texts, made):
    """Add what neighbouring texts have, if they have anything, to what is made."""
    words = "".join(texts)
    if words != "":
        made.append(("text", words))
