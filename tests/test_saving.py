"""Points 90 and 91: the texts of desks."""

import random

from desk_helper import DeskCase, shown, told
from helper import NO_LITERALS, NO_NAMES, THIRTEEN, TWELVE, drawn_books, drawn_facts, subsets, suiting
from renamedhorn.clauses import Clause
from renamedhorn.desks import Desk
from renamedhorn.errors import BadText, NothingAhead, NothingBack
from renamedhorn.printing import book_text
from renamedhorn.saving import desk_text, read_desk
from renamedhorn.standings import standing

SQUARE = [Clause("a", "b"), Clause("a", "-b"), Clause("-a", "b"), Clause("-a", "-b")]
PLAIN = ["1 a | b", "3 -b | c", "next 5", "facts -a z", "turning b c", "strict"]
OTHER = ["1 a | b", "2 a | -b", "3 -a | b", "4 -a | -b", "next 5", "facts", "turning -", "free"]


def lines_by_hand(desk):
    """The lines of the text of a desk by the words of point 90."""
    lines = book_text(desk.book).split("\n") if len(desk.book) else []
    lines.append("next " + str(desk.book.next_number))
    lines.append("facts" + "".join([" " + fact for fact in desk.kept_facts]))
    turned = "-" if desk.current is None else desk.current.turned
    lines.append("turning" + "".join([" " + name for name in turned]))
    lines.append("strict" if desk.strict else "free")
    return lines


def drawn_desks(seed, many):
    """Desks with facts, gaps in their numbers and turnings that are not the first ones."""
    draw = random.Random(seed)
    desks = []
    for book in drawn_books(seed, many, TWELVE[:5], 9, [0, 1, 2, 2, 2, 3]):
        desk = Desk(*[book[number] for number in book])
        for number in list(desk.book):
            if draw.random() < 0.2:
                desk.drop(number)
        for fact in drawn_facts(draw, desk.book.names, 5):
            desk.fact(fact)
        rows = suiting(desk.book)
        if rows:
            turned = draw.choice(rows)
            desk.turn(*[name if name not in turned else "-" + name for name in desk.book.names])
            desk.strict = draw.random() < 0.5
        desks.append(desk)
    return desks


class TextTest(DeskCase):
    def test_against_the_definition(self):
        kinds = set()
        for desk in drawn_desks(90, 80):
            before = shown(desk)
            self.assertEqual(desk_text(desk).split("\n"), lines_by_hand(desk))
            self.assertEqual(shown(desk), before)
            kinds.add((desk.current is None, desk.strict))
        self.assertEqual(len(kinds), 3)

    def test_known_by_hand(self):
        self.assertEqual(desk_text(Desk(Clause("a", "b"))), "1 a | b\nnext 2\nfacts\nturning b\nfree")
        self.assertEqual(desk_text(Desk()), "next 1\nfacts\nturning\nfree")
        self.assertEqual(desk_text(Desk(strict=True)), "next 1\nfacts\nturning\nstrict")
        self.assertEqual(desk_text(Desk(Clause())), "1 0\nnext 2\nfacts\nturning\nfree")
        desk = Desk(*SQUARE)
        desk.fact("z")
        desk.fact("-a")
        self.assertEqual(desk_text(desk).split("\n")[4:], ["next 5", "facts -a z", "turning -", "free"])
        desk.edit(*[("drop", number) for number in (1, 2, 3, 4)])
        self.assertEqual(desk_text(desk), "next 5\nfacts -a z\nturning\nfree")


class ReadTest(DeskCase):
    def same(self, text, desk):
        """Assert that a text gives a desk that shows the same as another one, but without history."""
        found = read_desk(text)
        self.assertIs(type(found), Desk)
        self.assertEqual(shown(found), (*shown(desk)[:3], 0, 0, (), desk.strict))
        self.assertEqual(desk_text(found), text)
        self.refused(NothingBack, found.undo)
        self.refused(NothingAhead, found.redo)
        return found

    def test_there_and_back(self):
        draw = random.Random(91)
        for desk in drawn_desks(910, 80):
            found = self.same(desk_text(desk), desk)
            self.assertEqual(told(found.stand()), told(standing(desk.book)))
            # What is done next comes out the same, too.
            desk.strict = found.strict
            for _ in range(3):
                clause = Clause(draw.choice(["a", "-a"]), draw.choice(["b", "-b", "x"]))
                self.assertEqual(self.outcome(found.put, clause)[0], self.outcome(desk.put, clause)[0])
                self.assertEqual(shown(found), shown(desk))

    def test_known_by_hand(self):
        desk = read_desk("\n".join(PLAIN))
        self.assertEqual((desk.book.next_number, desk.kept_facts), (5, ("-a", "z")))
        self.assertEqual((desk.current.turned, desk.strict), (("b", "c"), True))
        self.assertEqual(desk.put(Clause("c")), 5)
        desk = read_desk("\n".join(OTHER))
        self.assertEqual((desk.current, desk.strict, len(desk.book)), (None, False, 4))
        desk = read_desk("next 1000\nfacts\nturning\nstrict")
        self.assertEqual((len(desk.book), desk.book.next_number), (0, 1000))
        desk = read_desk("999 a\nnext 1000\nfacts\nturning a\nfree")
        self.assertEqual((list(desk.book), desk.book.next_number, desk.current.turned), ([999], 1000, ("a",)))

    def test_all_twelve_facts(self):
        text = "next 1\nfacts " + " ".join(TWELVE) + "\nturning\nfree"
        self.assertEqual(read_desk(text).kept_facts, tuple(TWELVE))
        self.wrong("next 1\nfacts " + " ".join(THIRTEEN) + "\nturning\nfree", 2)

    def wrong(self, text, line):
        self.refused(BadText, read_desk, text, line=line)

    def replaced(self, lines, at, *rows):
        """Assert that other lines in the place of one make that line the first wrong one."""
        for row in rows:
            with self.subTest(row=row):
                self.wrong("\n".join([*lines[:at], row, *lines[at + 1:]]), at + 1)

    def test_lines_of_the_book(self):
        for row in ("", " ", "0 a", "4  a", "04 a", "4", "4 ", "4 b | a", "4 a | a", "4 a | -a", "4 A", "4 a |b", "x a",
                    "-1 a", "1000 a", "999 a | b | c | d | e | f | g", "4 a ", " 4 a", "next5", "next", "4 next 5", "facts",
                    "1 c"):
            self.replaced([PLAIN[0], "2 b", *PLAIN[2:]], 1, row)
            self.replaced([*PLAIN[:2], "4 z", *PLAIN[2:]], 2, row)
        self.wrong("\n".join(["3 a", "3 b", *PLAIN[2:]]), 2)
        self.wrong("\n".join(["5 a", "3 b", "next b"]), 2)
        self.wrong("\n".join(["1 a", "x", "2"]), 2)
        rows = [f"{at + 1} {name}" for at, name in enumerate(TWELVE)]
        self.wrong("\n".join([*rows, "13 m", "next 14", "facts", "turning", "free"]), 13)
        rows = [f"{at} a" for at in range(1, 25)]
        read_desk("\n".join([*rows, "next 25", "facts", "turning", "free"]))
        self.wrong("\n".join([*rows, "25 a", "next 26", "facts", "turning", "free"]), 25)

    def test_the_line_of_the_next_number(self):
        self.replaced(PLAIN, 2, "next 3", "next 0", "next 1", "next 05", "next 0005", "next +5", "next -5", "next ", "next  5",
                      "next 5 ", "next 1001", "next 9999", "next 10000", "next 5 5", "next five", "next 5.", "next " + "9" * 5000)
        read_desk("\n".join([*PLAIN[:2], "next 4", *PLAIN[3:]]))
        read_desk("\n".join([*PLAIN[:2], "next 1000", *PLAIN[3:]]))
        self.wrong("next 0\nfacts\nturning\nfree", 1)
        self.wrong("next 1001\nfacts\nturning\nfree", 1)
        self.wrong("1 a\nnext\nfacts\nturning\nfree", 2)
        self.wrong("1 a\n next 2\nfacts\nturning\nfree", 2)
        self.wrong("1 a\nnext 2\nnext 2\nfacts\nturning\nfree", 3)
        self.wrong("1 a\nnext 1\nwrong\nfacts", 2)

    def test_the_line_of_the_facts(self):
        self.replaced(PLAIN, 3, "", "fact", "facts ", "facts z -a", "facts -a -a z", "facts a -a", "facts -a  z",
                      "facts -a z ", " facts -a z", "facts: -a z", "Facts -a z", "facts -a Z", "facts -", "next 5", "-a z",
                      "fact -a z", "factsa -a z", "turning b c")
        for text in NO_LITERALS:
            if " " not in text:
                self.replaced(PLAIN, 3, "facts " + text, "facts a " + text)

    def test_the_line_of_the_turning(self):
        self.replaced(PLAIN, 4, "", "turn", "turning ", "turning", "turning -", "turning c b", "turning b b c", "turning b  c",
                      "turning b c ", "turning b c z", "turning z", " turning b c", "turning a b", "turning B",
                      "turned b c", "turning - b", "turning " + " ".join(THIRTEEN), "strict", "facts")
        self.replaced(OTHER, 6, "turning", "turning a", "turning a b", "turning -a", "turning  -", "turning - ", "")
        for text in NO_NAMES:
            if "\n" not in text and text != "":
                self.replaced(PLAIN, 4, "turning " + text, "turning b " + text)

    def test_every_turning_that_suits_is_right(self):
        for book in drawn_books(911, 20, TWELVE[:3], 4, [1, 2, 2, 3]):
            rows = suiting(book)
            head = [*book_text(book).split("\n")] if len(book) else []
            for turned in subsets("abcd"):
                text = "\n".join([*head, f"next {book.next_number}", "facts", " ".join(["turning", *turned]), "free"])
                if turned in rows:
                    self.assertEqual(read_desk(text).current.turned, turned)
                else:
                    self.wrong(text, len(head) + 3)

    def test_the_line_of_the_flag(self):
        self.replaced(PLAIN, 5, "", "Strict", "strict ", " free", "true", "free strict", "turning b c")
        self.replaced(OTHER, 7, "strict", "", "-")
        self.assertIs(read_desk("\n".join([*PLAIN[:5], "free"])).strict, False)

    def test_lines_behind(self):
        for lines in (PLAIN, OTHER):
            for more in ("", "free", "next 5", "5 a"):
                self.wrong("\n".join([*lines, more]), len(lines) + 1)
                self.wrong("\n".join([*lines, more, ""]), len(lines) + 1)

    def test_texts_that_end_too_early(self):
        for lines in (PLAIN, OTHER, ["next 1", "facts", "turning", "free"]):
            for many in range(1, len(lines)):
                self.wrong("\n".join(lines[:many]), many + 1)
                if many > 1:
                    self.wrong("\n".join([*lines[:many], ""]), many + 1)
        self.wrong("", 1)
        self.wrong("\n", 1)
        self.wrong("1 a\n", 2)
        self.wrong("1 a\n2 b", 3)

    def test_the_first_wrong_line_is_told(self):
        self.wrong("\n".join(["1 b | a", "next 0", "facts A", "turning A", "A"]), 1)
        self.wrong("\n".join(["1 a | b", "next 0", "facts A", "turning A", "A"]), 2)
        self.wrong("\n".join(["1 a | b", "next 2", "facts A", "turning A", "A"]), 3)
        self.wrong("\n".join(["1 a | b", "next 2", "facts", "turning A", "A"]), 4)
        self.wrong("\n".join(["1 a | b", "next 2", "facts", "turning a", "A", "B"]), 5)
        self.wrong("\n".join(["1 a | b", "next 2", "facts", "turning a", "free", "B"]), 6)

    def test_two_desks_of_one_text_change_independently(self):
        text = "\n".join(PLAIN)
        one, other = read_desk(text), read_desk(text)
        one.put(Clause("c"))
        one.fact("y")
        self.assertEqual(desk_text(other), text)
