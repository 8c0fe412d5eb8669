"""The plan: the fewest works of a catalogue with which as little as can be of a course is wanting."""

from court.choices import choices
from court.dealing import Dealer, pairs_of
from court.errors import NoPlan
from court.fits import often_of
from court.grounds import masks_of, named_pairs, oftens_of, paper_of, wants_of


def refuse_what_cannot_be_planned(course, works, catalogue):
    taken = [work[0] for work in works]
    for work in catalogue:
        if work[0] in taken or often_of(course, work) > 1:
            raise NoPlan(work[0])
        taken.append(work[0])


# The learner's own works are dealt first, as well as can be; then the catalogue's come in. None of the ways of changing
# that are found from then on ends at a work of the learner's, and none takes a work out of all its pairs; so each
# brings in just one work of the catalogue.
class Attempt:
    def __init__(self, course, works, catalogue, choice):
        together = works + catalogue
        dealer = Dealer(wants_of(course, choice), oftens_of(course, works), masks_of(course, choice, together))
        dealer.grow()
        self.alone = paper_of(sum(dealer.still), sorted(dealer.came), choice)
        dealer.left.extend(oftens_of(course, catalogue))
        dealer.grow()
        self.together = paper_of(sum(dealer.still), sorted(dealer.came), choice)
        self.choice = choice
        self.pairs = named_pairs(pairs_of(dealer.held), choice, together)


# The less is wanting the better; of several, the fewer works of the catalogue are needed for it.
def rank_of(attempt):
    return (attempt.together[0], attempt.alone[0] - attempt.together[0])


class Plan:
    def __init__(self, course, works, catalogue):
        refuse_what_cannot_be_planned(course, works, catalogue)
        attempts = [Attempt(course, works, catalogue, choice) for choice in choices(course)]
        # Of several that are least `min` tells the first.
        chosen = min(attempts, key=rank_of)
        paired = [name for name, leaf in chosen.pairs]
        self.choice = chosen.choice
        self.wanting = chosen.together[0]
        self.names = sorted([work[0] for work in catalogue if work[0] in paired])
        self.pairs = chosen.pairs
        self.papers = (chosen.alone, chosen.together)
