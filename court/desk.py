"""The desk: keeps courses and learners by their names, and answers rows."""

from court.choices import count_choices
from court.errors import NoName, NoRow
from court.plan import Plan
from court.texts import read_course, show_course
from court.verdict import Verdict
from court.works import is_word, read_works, show_works

# For each row that asks or drops, which kinds of things its names stand for.
ROWS = {
    "drop course": ("course",),
    "drop works": ("works",),
    "show course": ("course",),
    "show works": ("works",),
    "choices": ("course",),
    "ask": ("course", "works"),
    "deal": ("course", "works"),
    "why": ("course", "works"),
    "plan": ("course", "works", "works"),
}


def read_thing(kind, text):
    return read_course(text) if kind == "course" else read_works(text)


def show_numbers(numbers):
    return " ".join([str(number) for number in numbers])


def show_ask(verdict):
    marks = verdict.marks
    wanting = verdict.wanting
    return f"met {marks}" if verdict.met else f"wanting {wanting} {marks}"


def show_deal(verdict):
    leaves = show_numbers(verdict.choice)
    pairs = ", ".join([f"{name} {leaf}" for name, leaf in verdict.pairs])
    return f"{leaves}: {pairs}"


def show_why(verdict):
    return "; ".join([show_numbers([wanting] + leaves) for wanting, leaves in verdict.papers])


def show_plan(plan):
    return " ".join([str(plan.wanting)] + plan.names)


def show_verdict(head, verdict):
    if head == "ask":
        return show_ask(verdict)
    return show_deal(verdict) if head == "deal" else show_why(verdict)


def show_answer(head, things):
    if head == "show course":
        return show_course(things[0])
    if head == "show works":
        return show_works(things[0])
    if head == "choices":
        return str(count_choices(things[0]))
    if head == "plan":
        return show_plan(Plan(things[0], things[1], things[2]))
    return show_verdict(head, Verdict(things[0], things[1]))


class Desk:
    def __init__(self):
        self.kept = {"course": {}, "works": {}}

    def say(self, row):
        if not isinstance(row, str):
            raise NoRow()
        parts = row.split(" ")
        # A text may have blanks too, so a row with one is parted at its first two alone.
        if parts[0] in self.kept:
            return self.keep(row.split(" ", 2))
        if parts[0] in ("drop", "show"):
            return self.answer(" ".join(parts[:2]), parts[2:])
        return self.answer(parts[0], parts[1:])

    def keep(self, parts):
        if len(parts) < 3 or not is_word(parts[1]):
            raise NoRow()
        self.kept[parts[0]][parts[1]] = read_thing(parts[0], parts[2])
        return "ok"

    def answer(self, head, names):
        if head not in ROWS or len(names) != len(ROWS[head]) or not all([is_word(name) for name in names]):
            raise NoRow()
        things = [self.look_up(kind, name) for kind, name in zip(ROWS[head], names)]
        if head in ("drop course", "drop works"):
            self.kept[ROWS[head][0]].pop(names[0])
            return "ok"
        return show_answer(head, things)

    def look_up(self, kind, name):
        if name not in self.kept[kind]:
            raise NoName(name)
        return self.kept[kind][name]
