"""Dealings with the greatest sum of marks, and the prices that show that none has a greater one."""

from court.bits import either, first_of, has, last_of, less, mask_of, shared
from court.dealing import pairs_of


def base_of(oftens, marks, worths):
    # More than all marks together can bring, so that one pair more outweighs whatever marks.
    return 1 + sum([mark * often for mark, often in zip(marks, oftens)]) * max(worths, default=1)


def weights_of(oftens, marks, worths):
    base = base_of(oftens, marks, worths)
    weights = []
    for mark in marks:
        weights.append([base + mark * worth for worth in worths])
    return weights


def above_price(place, work, weights, place_prices, work_prices):
    return max(0, weights[work][place] - place_prices[place] - work_prices[work])


def priced(wants, oftens, masks, weights, place_prices, work_prices):
    total = sum([want * price for want, price in zip(wants, place_prices)])
    total = total + sum([often * price for often, price in zip(oftens, work_prices)])
    for place, mask in enumerate(masks):
        works = [work for work in range(len(oftens)) if has(mask, work)]
        total = total + sum([above_price(place, work, weights, place_prices, work_prices) for work in works])
    return total


# A dealing that grows by one pair with each way of changing, each time by the way that gains most: so none of as many
# pairs has a greater sum. Its works are numbered by rising marks, so that of a set's works the last has the greatest.
class Weigher:
    def __init__(self, wants, oftens, masks, marks, worths):
        self.base = base_of(oftens, marks, worths)
        self.masks = list(masks)
        self.marks = list(marks)
        self.worths = list(worths)
        # For each place the mask of the works that are paired with it.
        self.held = [0 for mask in masks]
        # What each place still wants, and in how many pairs more each work may be.
        self.still = list(wants)
        self.left = list(oftens)
        # For each place the most that a way from there gains, 0 where none gains more, and the way's first step: the
        # work that the place gets, and the place that gives it away, None where the work is in a new pair.
        self.gains = []
        self.steps = []

    def take_free_works(self):
        self.gains = [0 for mask in self.masks]
        self.steps = [None for mask in self.masks]
        free = mask_of([work for work, left in enumerate(self.left) if left > 0])
        for place, mask in enumerate(self.masks):
            work = last_of(less(shared(mask, free), self.held[place]))
            if work is not None:
                self.gains[place] = self.base + self.marks[work] * self.worths[place]
                self.steps[place] = (work, None)

    # For each other place that may give a work away, the one that gains most by it: the base is the same at both.
    def moves_to(self, place):
        moves = []
        for other, held in enumerate(self.held):
            works = less(shared(held, self.masks[place]), self.held[place])
            more = self.worths[place] - self.worths[other]
            # Where the worth becomes less, the least mark loses least.
            work = last_of(works) if more > 0 else first_of(works)
            if work is not None:
                moves.append((other, work, self.marks[work] * more))
        return moves

    def lengthen(self, moves):
        longer = False
        for place, found in enumerate(moves):
            for other, work, more in found:
                if self.gains[other] + more > self.gains[place]:
                    self.gains[place] = self.gains[other] + more
                    self.steps[place] = (work, other)
                    longer = True
        return longer

    def find_ways(self):
        self.take_free_works()
        moves = [self.moves_to(place) for place in range(len(self.masks))]
        # No round of moves gains anything, or the sum would not be the greatest; so this comes to an end.
        while self.lengthen(moves):
            pass

    # The place that wants from which a way gains most, None where no way is left. A way that ends at a place which
    # gives a pair up gains nothing from here, as it leaves as many pairs; so what gains is a pair more.
    def find_start(self):
        self.find_ways()
        start = None
        most = 0
        for place, still in enumerate(self.still):
            if still > 0 and self.gains[place] > most:
                start = place
                most = self.gains[place]
        return start

    def make_step(self, place):
        work = self.steps[place][0]
        giver = self.steps[place][1]
        self.held[place] = either(self.held[place], mask_of([work]))
        if giver is None:
            self.left[work] = self.left[work] - 1
        else:
            self.held[giver] = less(self.held[giver], mask_of([work]))
        return giver

    def add_pairs(self):
        start = self.find_start()
        while start is not None:
            self.still[start] = self.still[start] - 1
            place = start
            while place is not None:
                place = self.make_step(place)
            start = self.find_start()


def renumbered(mask, order):
    return mask_of([number for number, work in enumerate(order) if has(mask, work)])


def greatest_dealing(wants, oftens, masks, marks, worths):
    order = sorted(range(len(marks)), key=lambda work: marks[work])
    turned = [renumbered(mask, order) for mask in masks]
    weigher = Weigher(wants, [oftens[work] for work in order], turned, [marks[work] for work in order], worths)
    weigher.add_pairs()
    # What a way from a place gains is its price: no work is worth more there than what it brings elsewhere, and a
    # place that wants has no way left, so its price is 0.
    return (sorted([(order[number], place) for number, place in pairs_of(weigher.held)]), weigher.gains)


# The least that keeps the work, together with the place's price, from weighing more at a place where it is not.
def price_of_work(work, pairs, masks, weights, place_prices):
    paired = [place for other, place in pairs if other == work]
    others = [place for place, mask in enumerate(masks) if has(mask, work) and place not in paired]
    return max([0] + [weights[work][place] - place_prices[place] for place in others])


def best(wants, oftens, masks, marks, worths):
    found = greatest_dealing(wants, oftens, masks, marks, worths)
    pairs = found[0]
    place_prices = found[1]
    total = sum([marks[work] * worths[place] for work, place in pairs])
    weights = weights_of(oftens, marks, worths)
    work_prices = [price_of_work(work, pairs, masks, weights, place_prices) for work in range(len(marks))]
    return (pairs, total, place_prices, work_prices)
