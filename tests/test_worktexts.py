"""[2.1]: works written as texts, and read; what is no text, and at which row."""

import random
import re
import unittest

from leastblame.errors import NoText, NoWork
from leastblame.works import Work
from leastblame.worktexts import read, shown

from helpers import TIES, WIRES, fields_of, odd_things, some_works

TEXT = """wire a 2
wire b 3
wire c 4
wire d 2
part p
fixed a 1
same b c
turned c b
least c b a
most c b a
sum b c a
pick c d a b
rows b,a 0,1 2,0
part a
rows c
rows a,b,c,d 0,0,0,0 1,2,3,1"""

WORK = Work(WIRES, [("p", TIES), ("a", [("rows", ("c",), ()), ("rows", tuple("abcd"), ((0, 0, 0, 0), (1, 2, 3, 1)))])])

# A second telling of the rows' forms, apart from the package; which names and rows go together the Work knows.
FORMS = {
    "wire": r"wire [a-z]{1,6} [2-4]",
    "part": r"part [a-z]{1,6}",
    "fixed": r"fixed [a-z]{1,6} [0-3]",
    "same": r"same( [a-z]{1,6}){2}",
    "turned": r"turned( [a-z]{1,6}){2}",
    "least": r"least( [a-z]{1,6}){3}",
    "most": r"most( [a-z]{1,6}){3}",
    "sum": r"sum( [a-z]{1,6}){3}",
    "pick": r"pick( [a-z]{1,6}){4}",
    "rows": r"rows [a-z]{1,6}(,[a-z]{1,6})*( [0-3](,[0-3])*)*",
}


def work_slowly(rows):
    """The work with these rows, or None; a part without ties at the end is given one."""
    wires, parts = [], []
    for row in rows:
        word = row.split(" ")[0]
        if word not in FORMS or not re.fullmatch(FORMS[word], row):
            return None
        words = row.split(" ")[1:]
        if word == "wire":
            if parts:
                return None
            wires.append((words[0], int(words[1])))
        elif word == "part":
            parts.append((words[0], []))
        elif not parts:
            return None
        elif word == "rows":
            table = tuple(tuple(int(value) for value in one.split(",")) for one in words[1:])
            parts[-1][1].append(("rows", tuple(words[0].split(",")), table))
        else:
            parts[-1][1].append((word, *(int(one) if one.isdigit() else one for one in words)))
    if parts and wires and not parts[-1][1]:
        parts[-1][1].append(("fixed", wires[0][0], 0))
    try:
        return Work(wires, parts)
    except NoWork:
        return None


def row_slowly(text):
    """The row that NoText must tell, or None where the text is a work's."""
    rows = text.split("\n")
    for number in range(len(rows)):
        if work_slowly(rows[:number + 1]) is None:
            return number
    return len(rows) if rows[-1].startswith("part ") else None


class Checked(unittest.TestCase):
    def refused(self, row, text):
        with self.assertRaises(NoText) as caught:
            read(text)
        self.assertEqual(fields_of(caught.exception), {"row": row}, text)
        self.assertIs(caught.exception.row.__class__, int)

    def right(self, text):
        """Read or refused as the second telling has it."""
        row = row_slowly(text)
        if row is None:
            self.assertEqual(read(text), work_slowly(text.split("\n")))
            self.assertEqual(shown(read(text)), text)
        else:
            self.refused(row, text)


class Shown(Checked):
    def test_every_sort_of_row(self):
        self.assertEqual(shown(WORK), TEXT)
        self.assertEqual(shown(work=WORK), TEXT)

    def test_wires_alone(self):
        self.assertEqual(shown(Work([("abcdef", 4)])), "wire abcdef 4")

    def test_no_rows_leave_no_blank(self):
        self.assertEqual(shown(Work([("a", 2)], [("p", [("rows", ("a",), ())])])), "wire a 2\npart p\nrows a")

    def test_what_is_no_work(self):
        for thing in odd_things() + [TEXT, WORK.wires(), Work]:
            with self.assertRaises(NoWork) as caught:
                shown(thing)
            self.assertEqual(fields_of(caught.exception), {"part": "work", "number": None, "tie": None})


class Read(Checked):
    def test_every_sort_of_row(self):
        self.assertEqual(read(TEXT), WORK)
        self.assertEqual(read(text=TEXT), WORK)
        self.assertIsInstance(read(TEXT), Work)

    def test_to_and_fro(self):
        for wires, parts in some_works(60, seed=3):
            work = Work(wires, parts)
            self.assertEqual(read(shown(work)), work)

    def test_the_most_of_all(self):
        wires = [(letter, 2) for letter in "abcdefgh"]
        parts = [(name, [("same", "a", "b")] * 24) for name in "pqrstuv"]
        self.assertEqual(read(shown(Work(wires, parts))), Work(wires, parts))

    def test_words_as_names(self):
        text = "wire wire 2\nwire part 2\npart rows\nsame part wire\npart wire\nrows wire,part 0,1"
        self.assertEqual(shown(read(text)), text)


class NoTexts(Checked):
    def test_what_is_no_text(self):
        for thing in odd_things() + [TEXT.encode(), [TEXT], (TEXT,), TEXT.split("\n"), WORK, 0, [], ()]:
            if not isinstance(thing, str):
                self.refused(0, thing)

    def test_texts_that_are_none_at_all(self):
        for text in ["", "\n", " ", "\t", "a", "wire", "wire ", "wire a", "part p", "fixed a 0", "\nwire a 2", "rows",
                     "rows ", "wire a 2 ", " wire a 2", "wire  a 2", "wire a  2", "wire\ta 2", "Wire a 2", "wire a 2\r"]:
            self.refused(0, text)

    def test_blank_rows(self):
        self.refused(1, "wire a 2\n")
        self.refused(1, "wire a 2\n\n")
        self.refused(1, "wire a 2\n\nwire b 2")
        self.refused(16, TEXT + "\n")
        self.refused(16, TEXT + "\n\n")
        self.refused(16, TEXT + "\n ")

    def test_none_yet(self):
        self.refused(2, "wire a 2\npart p")
        self.refused(3, "wire a 2\nwire b 2\npart p")
        self.refused(4, "wire a 2\npart p\nfixed a 0\npart q")
        self.refused(14, "\n".join(TEXT.split("\n")[:14]))

    def test_numbers_of_wires(self):
        for many in ["0", "1", "5", "02", "2.", "+2", "-2", "two", "", "22", "2,", "\u0662", "\u00b2", "True", "None"]:
            self.refused(0, "wire a " + many)
            self.refused(1, "wire b 2\nwire a " + many + "\nwire")

    def test_names_of_wires(self):
        for name in ["", "abcdefg", "A", "a1", "a,b", "_", "\u00e4"]:
            self.refused(0, "wire " + name + " 2")
        self.refused(1, "wire a 2\nwire a 3")
        self.refused(2, "wire a 2\nwire b 2\nwire a 2\npart")

    def test_too_many_wires_and_worlds(self):
        rows = ["wire " + letter + " 2" for letter in "abcdefgh"]
        read("\n".join(rows))
        self.refused(8, "\n".join(rows + ["wire i 2"]))
        self.refused(8, "\n".join(rows + ["wire i 2", "wire"]))
        rows = ["wire " + letter + " 4" for letter in "abcde"]
        read("\n".join(rows + ["wire f 2"]))
        self.refused(5, "\n".join(rows + ["wire f 3"]))
        self.refused(6, "\n".join(rows + ["wire f 2", "wire g 2", "wire"]))

    def test_too_many_parts(self):
        rows = ["wire a 2"]
        for name in "pqrstuv":
            rows += ["part " + name, "fixed a 0"]
        self.assertEqual(len(read("\n".join(rows))), 7)
        self.refused(15, "\n".join(rows + ["part w"]))
        self.refused(15, "\n".join(rows + ["part w", "fixed a 0"]))

    def test_names_of_parts(self):
        head = "wire a 2\npart p\nfixed a 0\n"
        for name in ["p", "", "abcdefg", "P", "q1", "q r", "q,r"]:
            self.refused(3, head + "part " + name + "\nfixed a 0")
        self.refused(3, head + "part")
        self.assertEqual(read(head + "part a\nfixed a 0").part_number("a"), 1)

    def test_a_part_without_ties(self):
        self.refused(2, "wire a 2\npart p\npart q\nfixed a 0")
        self.refused(2, "wire a 2\npart p\n")

    def test_too_many_ties(self):
        head = "wire a 2\npart p" + "\nfixed a 0" * 24
        self.assertEqual(len(read(head).parts()[0][1]), 24)
        self.assertEqual(len(read(head + "\npart q" + "\nfixed a 0" * 24).parts()[1][1]), 24)
        self.refused(26, head + "\nfixed a 0")
        self.refused(26, head + "\nfixed a 0\npart q")

    def test_wires_behind_parts_and_ties_ahead_of_them(self):
        self.refused(3, "wire a 2\npart p\nfixed a 0\nwire b 2")
        self.refused(2, "wire a 2\npart p\nwire b 2")
        self.refused(1, "wire a 2\nfixed a 0")

    def test_wires_that_there_are_not(self):
        self.refused(2, "wire a 2\npart p\nsame a b\nfixed a 0")
        self.refused(3, "wire a 2\npart p\nfixed a 0\nrows a,b")

    def test_ties_bent(self):
        for row in ["fixed", "fixed a", "fixed a 4", "fixed a a", "fixed 1 a", "fixed a 0 0", "fixed a 00", "fixed a -1",
                    "same a", "same a b c", "same a 0", "turned a", "turned a b a", "least a b", "least a b a b", "most a b",
                    "sum a b", "sum a b a b", "pick a b a", "pick a b a b a", "Same a b", "same  a b", "same a b ", "other a b",
                    "rows", "rows ", "rows a,a", "rows a,", "rows ,a", "rows a b", "rows a,b 0", "rows a,b 0,1,1", "rows a,b 0,",
                    "rows a,b 0,4", "rows a,b 0,1 ", "rows a,b  0,1", "rows a,b 0,1 0,1", "rows a,b 1,0 0,1", "rows a 0,1",
                    "rows a, b 0,1", "rows a,b 0, 1", "rows a,b 0;1", "rows a,b ,", "rows a,b 0,1 x", "rows a,b 00,1", "",
                    " ", "\t", "is a 0", "fixed a 1\t", "fixed a True", "fixed a \u0661"]:
            self.refused(3, "wire a 2\nwire b 2\npart p\n" + row)
            self.refused(4, "wire a 2\nwire b 2\npart p\nsame a b\n" + row + "\nwrong")


class Bent(Checked):
    """Right texts, bent everywhere, by the second telling."""

    def test_cut_off_at_each_sign(self):
        for length in range(len(TEXT) + 1):
            self.right(TEXT[:length])

    def test_without_a_row_twice_a_row_and_exchanged(self):
        rows = TEXT.split("\n")
        for one in range(len(rows)):
            self.right("\n".join(rows[:one] + rows[one + 1:]))
            self.right("\n".join(rows[:one + 1] + rows[one:]))
            for other in range(one):
                changed = list(rows)
                changed[one], changed[other] = rows[other], rows[one]
                self.right("\n".join(changed))

    def test_without_a_word_twice_a_word_and_exchanged(self):
        rows = TEXT.split("\n")
        for number, row in enumerate(rows):
            words = row.split(" ")
            for at in range(len(words)):
                for bent in [words[:at] + words[at + 1:], words[:at + 1] + words[at:], words[:at] + words[at:][::-1],
                             words[:at] + [""] + words[at:]]:
                    self.right("\n".join(rows[:number] + [" ".join(bent)] + rows[number + 1:]))

    def test_another_sign(self):
        for at in range(len(TEXT)):
            for sign in "a0 5,\nZ":
                self.right(TEXT[:at] + sign + TEXT[at + 1:])

    def test_rows_of_several_works_mixed(self):
        chance = random.Random(4)
        for wires, parts in some_works(60, seed=5):
            rows = shown(Work(wires, parts)).split("\n")
            for _ in range(5):
                mixed = list(rows)
                mixed.insert(chance.randrange(len(rows) + 1), chance.choice(TEXT.split("\n")))
                self.right("\n".join(mixed))


if __name__ == "__main__":
    unittest.main()
