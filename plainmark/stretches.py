"""Stretches: blocks and items as the outline has them, with their lines."""


class Stretch:
    """A block or an item, the first and the last of its lines, and those in it."""

    def __init__(self, word, first, last, block, parts):
        self.word = word
        self.first = first
        self.last = last
        self.block = block
        self.parts = parts


def blocks_of(stretches):
    """The tuple of the blocks of a row of stretches."""
    return tuple([one.block for one in stretches])


def has_gap(stretches):
    """Whether two neighbours in a row of stretches have lines between them."""
    return any([behind.first != ahead.last + 1 for ahead, behind in zip(stretches, stretches[1:])])


def stretches_of(nodes):
    """The list of the stretches that a row of nodes makes.

    It goes from the innermost ones to the outermost ones without calling
    itself, as containers may stand in one another as deep as they like.
    """
    order = []
    ahead = list(nodes)
    while ahead:
        node = ahead.pop()
        order.append(node)
        ahead.extend(node.parts)
    made = {}
    for node in reversed(order):
        made[node] = node.finished(made_of(node.parts, made))
    return made_of(nodes, made)


def made_of(nodes, made):
    """The list of what was made of each of a row of nodes."""
    return [one for node in nodes for one in made[node]]


def spans_of(stretches):
    """The list of tuples (place, word, first line, last line), each ahead of those in it."""
    told = []
    ahead = placed((), stretches)
    while ahead:
        place, one = ahead.pop()
        told.append((place, one.word, one.first, one.last))
        ahead.extend(placed(place, one.parts))
    return told


def placed(place, stretches):
    """A list of tuples (place, stretch) for those within a place, the last one first."""
    return [(place + (index,), one) for index, one in enumerate(stretches)][::-1]
