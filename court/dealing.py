"""Dealings that leave as little wanting as can be, each with a paper that shows it."""

from court.bits import either, first_of, less, mask_of, members, shared


# A dealing that grows by one pair with each way of changing.
class Dealer:
    def __init__(self, wants, oftens, masks):
        self.masks = list(masks)
        # For each place the mask of the works that are paired with it.
        self.held = [0 for mask in masks]
        # What each place still wants, and in how many pairs more each work may be.
        self.still = list(wants)
        self.left = list(oftens)
        # The places that the last search came to: for each the pair (work, place) by which it came there, None for
        # those that want.
        self.came = {}

    def search(self):
        free = mask_of([work for work, left in enumerate(self.left) if left > 0])
        queue = [place for place, still in enumerate(self.still) if still > 0]
        self.came = {}
        for place in queue:
            self.came[place] = None
        number = 0
        while number < len(queue):
            place = queue[number]
            works = less(self.masks[place], self.held[place])
            last = first_of(shared(works, free))
            if last is not None:
                return (last, place)
            queue.extend(self.go_on_from(place, works))
            number = number + 1
        return None

    def go_on_from(self, place, works):
        found = []
        for other, held in enumerate(self.held):
            work = first_of(shared(works, held))
            if work is not None and other not in self.came:
                self.came[other] = (work, place)
                found.append(other)
        return found

    # The way is walked from its end: the last work is new in a pair, each of the others moves to the place ahead of it.
    def change(self, pair):
        self.left[pair[0]] = self.left[pair[0]] - 1
        while pair is not None:
            place = pair[1]
            self.held[place] = either(self.held[place], mask_of([pair[0]]))
            pair = self.came[place]
            if pair is not None:
                self.held[place] = less(self.held[place], mask_of([pair[0]]))
        self.still[place] = self.still[place] - 1

    def grow(self):
        pair = self.search()
        while pair is not None:
            self.change(pair)
            pair = self.search()


def pairs_of(held):
    pairs = []
    for place, mask in enumerate(held):
        pairs.extend([(work, place) for work in members(mask)])
    return sorted(pairs)


def deal(wants, oftens, masks):
    dealer = Dealer(wants, oftens, masks)
    dealer.grow()
    # No way was left at the last search, so the places that it came to are a paper.
    return (pairs_of(dealer.held), sum(dealer.still), sorted(dealer.came))
