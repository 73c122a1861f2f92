"""The definitions of an outline or a document."""

import copy
import unittest

from plainmark.definitions import definitions


def definition(label, destination="/u", title=None):
    return ("definition", label, destination, title)


def quote(*blocks):
    return ("quote", blocks)


def bullets(*items):
    return ("list", "-", None, True, items)


def numbers(*items):
    return ("list", ".", 7, False, items)


def text(*words):
    return ("paragraph", tuple(("text", word) for word in words))


OTHERS = (
    ("heading", 1, "[a]: /u"), ("heading", 2, (("text", "a"),)), ("break",), ("code", "[a]: /u\n", None),
    ("code", "", "definition"), ("html", "<b>\n"), ("paragraph", "[a]: /u"), ("paragraph", "definition"),
    text("definition", "a"), ("paragraph", (("link", "a", "b", (("text", "c"),)), ("image", "d", None, ()))),
    ("quote", ()), ("list", "-", None, True, ((),)), ("list", "*", None, False, ((), (), ())),
)


class AllDefinitions(unittest.TestCase):
    def told(self, blocks, *rows):
        """The dict has these rows, in this order."""
        found = definitions(blocks)
        self.assertEqual(type(found), dict)
        self.assertEqual(list(found.items()), list(rows))

    def test_none(self):
        self.told(())
        for other in OTHERS:
            self.told((other,))
            self.told((quote(other, other), bullets((other,), (other, other))))
        self.told(OTHERS)

    def test_one(self):
        self.told((definition("a"),), ("a", ("/u", None)))
        self.told((definition("a b", "", ""),), ("a b", ("", "")))
        self.told((definition("\\]", "v", "t u"),), ("\\]", ("v", "t u")))
        for other in OTHERS:
            self.told((other, definition("a"), other), ("a", ("/u", None)))

    def test_several_in_their_order(self):
        self.told((definition("b"), definition("a", "v", "t"), text("x"), definition("c")),
                  ("b", ("/u", None)), ("a", ("v", "t")), ("c", ("/u", None)))
        self.told((definition("c"), definition("b"), definition("a")),
                  ("c", ("/u", None)), ("b", ("/u", None)), ("a", ("/u", None)))

    def test_the_first_of_each(self):
        self.told((definition("a", "1"), definition("a", "2", "t")), ("a", ("1", None)))
        self.told((definition("a", "1", "t"), definition("b", "2"), definition("a", "3"), definition("b", "4")),
                  ("a", ("1", "t")), ("b", ("2", None)))
        self.told((definition("a", ""), definition("a", "1", "")), ("a", ("", None)))

    def test_in_containers(self):
        self.told((quote(definition("a")),), ("a", ("/u", None)))
        self.told((bullets((definition("a"),)),), ("a", ("/u", None)))
        self.told((numbers((), (text("x"), definition("a"))),), ("a", ("/u", None)))
        self.told((quote(quote(quote(definition("a")))),), ("a", ("/u", None)))
        self.told((bullets((bullets((numbers((definition("a"),)),)),)),), ("a", ("/u", None)))

    def test_order_of_containers(self):
        one, two, three, four, five, six = [definition(label) for label in "fbdace"]
        rows = [(label, ("/u", None)) for label in "fbdace"]
        self.told((one, quote(two, three), four, five, six), *rows)
        self.told((quote(one), quote(two), bullets((three, four), (five,), (six,))), *rows)
        self.told((bullets((one,), (two, quote(three, numbers((four,))), five)), six), *rows)
        self.told((quote(bullets((one, bullets((two,), (three,))), (four,)), five), six), *rows)
        self.told((quote(quote(one, quote(two), three), four), quote(five), six), *rows)
        self.told((bullets((one,), (), (two,)), numbers((three,), (four,)), bullets((five, six))), *rows)

    def test_the_first_of_each_in_containers(self):
        one, two = definition("a", "1"), definition("a", "2")
        for blocks in ((one, quote(two)), (quote(one), two), (bullets((one,), (two,)),), (bullets((one, two)),),
                       (quote(bullets((one,))), two), (quote(quote(one)), quote(two)),
                       (bullets((quote(one),)), numbers((two,))), (quote(one, two), two), (one, bullets((), (two,)))):
            self.told(blocks, ("a", ("1", None)))

    def test_the_place_of_a_label_is_that_of_its_first_definition(self):
        self.told((definition("a", "1"), quote(definition("b", "2")), definition("a", "3"), definition("c", "4"),
                   definition("b", "5")), ("a", ("1", None)), ("b", ("2", None)), ("c", ("4", None)))

    def test_deep_containers(self):
        blocks = (definition("a"),)
        wanted = [("a", ("/u", None))]
        for depth in range(100):
            label = f"l{depth}"
            blocks = (quote(*blocks), definition(label)) if depth % 2 else (bullets(blocks), definition(label))
            wanted.append((label, ("/u", None)))
        self.told(blocks, *wanted)

    def test_many_blocks(self):
        blocks = tuple(definition(f"l{number}", str(number)) for number in range(20000))
        self.told(blocks, *[(f"l{number}", (str(number), None)) for number in range(20000)])

    def test_the_dict_is_new_each_time(self):
        blocks = (definition("a"), quote(definition("b")))
        first = definitions(blocks)
        first["a"] = first["c"] = None
        del first["b"]
        self.told(blocks, ("a", ("/u", None)), ("b", ("/u", None)))
        first = definitions(())
        first["a"] = 1
        self.told(())

    def test_the_argument_stays(self):
        blocks = (definition("a"), quote(definition("b")), bullets((definition("a", "v"),), ()))
        kept = copy.deepcopy(blocks)
        definitions(blocks)
        self.assertEqual(blocks, kept)

    def test_argument_by_name(self):
        self.assertEqual(definitions(blocks=(definition("a"),)), {"a": ("/u", None)})

    def test_kinds_of_what_is_returned(self):
        (label, told), = definitions((definition("a", "b", "c"),)).items()
        self.assertEqual([type(label), type(told), type(told[0]), type(told[1])], [str, tuple, str, str])


if __name__ == "__main__":
    unittest.main()
