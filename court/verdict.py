"""The court's verdict: the choice of a course that a learner's works meet best, and the papers that show it."""

from court.choices import choices
from court.dealing import deal
from court.grounds import masks_of, named_pairs, oftens_of, paper_of, wants_of, worths_of
from court.prices import best


def paper_for(course, works, choice):
    told = deal(wants_of(course, choice), oftens_of(course, works), masks_of(course, choice, works))
    return paper_of(told[1], told[2], choice)


def best_for(course, works, choice):
    wants = wants_of(course, choice)
    masks = masks_of(course, choice, works)
    marks = [work[3] for work in works]
    return best(wants, oftens_of(course, works), masks, marks, worths_of(course, choice))


class Verdict:
    def __init__(self, course, works):
        every = choices(course)
        self.papers = [paper_for(course, works, choice) for choice in every]
        self.wanting = min([wanting for wanting, leaves in self.papers])
        self.met = self.wanting == 0
        # Marks decide only between choices that leave as little wanting.
        least = [choice for choice, paper in zip(every, self.papers) if paper[0] == self.wanting]
        told = [best_for(course, works, choice) for choice in least]
        self.marks = max([found[1] for found in told])
        first = [found[1] for found in told].index(self.marks)
        self.choice = least[first]
        self.pairs = named_pairs(told[first][0], self.choice, works)
        self.leaf_prices = told[first][2]
        self.work_prices = told[first][3]
