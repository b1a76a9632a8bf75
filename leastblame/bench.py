"""A bench: a work on which looks come and go."""

from leastblame.blames import broken
from leastblame.clashes import clashing
from leastblame.errors import Bare, NoNumber, NoRow
from leastblame.labels import label_row
from leastblame.plans import worst_plan
from leastblame.ties import whole_within
from leastblame.works import Work, check_work
from leastblame.worlds import check_looks

QUESTIONS = ("clashing", "broken", "next")


class Bench:
    """A work and looks, what they were ahead of each deed that stands, and a log of what was supposed."""

    def __init__(self, work):
        check_work(work)
        self.work_now = work
        # Works never change, and a list of looks that was kept is only ever put aside for another one.
        self.looks_now = []
        self.stood = []
        self.entries = []

    def see(self, word, wire, value):
        look = (word, wire, value)
        check_looks(self.work_now, [look])
        self.change(self.work_now, [*self.looks_now, look])

    def take(self, number):
        if not whole_within(number, 0, len(self.looks_now) - 1):
            raise NoNumber(number)
        look = self.looks_now[number]
        self.change(self.work_now, self.looks_now[:number] + self.looks_now[number + 1:])
        return look

    def exchange(self, part, ties):
        parts = self.work_now.parts()
        number = self.work_now.part_number(part)
        parts[number] = (parts[number][0], ties)
        self.change(Work(self.work_now.wires(), parts), self.looks_now)

    def back(self):
        if not self.stood:
            raise Bare()
        self.work_now, self.looks_now = self.stood.pop()

    def change(self, work, looks):
        """A deed: work and looks are these from now on, until it is taken back."""
        self.stood.append((self.work_now, self.looks_now))
        self.work_now = work
        self.looks_now = looks

    def work(self):
        return self.work_now

    def looks(self):
        return list(self.looks_now)

    def clashing(self):
        return clashing(self.work_now, self.looks_now)

    def broken(self):
        return broken(self.work_now, self.looks_now)

    def lots(self, wire):
        return label_row(self.work_now, self.looks_now, wire)

    def next_look(self, open_wires):
        return first_look(self.work_now, self.looks_now, open_wires)

    def suppose(self, looks, question, *, open_wires=()):
        self.entries.append("begin")
        try:
            return self.answer(looks, question, open_wires)
        finally:
            self.entries.append("end")

    def answer(self, looks, question, open_wires):
        """What the question tells, with the looks behind the others; nothing of this is kept."""
        if not isinstance(question, str) or question not in QUESTIONS:
            raise NoRow()
        check_looks(self.work_now, looks)
        supposed = self.looks_now + looks
        if question == "clashing":
            return clashing(self.work_now, supposed)
        if question == "broken":
            return broken(self.work_now, supposed)
        told = list(open_wires) if isinstance(open_wires, tuple) else open_wires
        return first_look(self.work_now, supposed, told)

    def log(self):
        return list(self.entries)

    def twin(self):
        other = Bench(self.work_now)
        other.looks_now = self.looks_now
        other.stood = list(self.stood)
        other.entries = list(self.entries)
        return other

    def __len__(self):
        return len(self.looks_now)

    def __eq__(self, other):
        return isinstance(other, Bench) and self.work_now == other.work_now and self.looks_now == other.looks_now


def first_look(work, looks, open_wires):
    """The wire that the plan with the least worst looks at first, or None."""
    plan = worst_plan(work, looks, open_wires)[1]
    return plan[1] if plan[0] == "look" else None
