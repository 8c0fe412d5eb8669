"""[17], a dealing that leaves as little wanting as can be and its paper; [22] so far as it rests on it; [2]."""

import copy
import functools
import itertools
import random
import unittest

from court.dealing import deal
from court.papers import is_dealing, shown


def fitting_pairs(masks, works):
    return [(work, place) for work in range(works) for place, mask in enumerate(masks) if mask >> work & 1]


def least_by_trying(wants, oftens, masks):
    """The least that any dealing leaves wanting, by trying for each work all the places it may be paired with."""
    works = len(oftens)
    fits = [[place for place, mask in enumerate(masks) if mask >> work & 1] for work in range(works)]

    @functools.lru_cache(maxsize=None)
    def least(work, still):
        if work == works:
            return sum(still)
        found = []
        for many in range(oftens[work] + 1):
            for places in itertools.combinations(fits[work], many):
                after = list(still)
                for place in places:
                    after[place] -= 1
                if min(after, default=0) >= 0:
                    found.append(least(work + 1, tuple(after)))
        return min(found)

    return least(0, tuple(wants))


def drawn_ground(draw, places, works, most_want, most_often, share):
    wants = [draw.randint(0, most_want) for _ in range(places)]
    oftens = [draw.randint(1, most_often) for _ in range(works)]
    masks = [sum(1 << work for work in range(works) if draw.random() < share) for _ in range(places)]
    return (wants, oftens, masks)


def turned(ground, places, works):
    """The same ground with its places and works in another order."""
    wants, oftens, masks = ground
    turned_masks = []
    for place in places:
        turned_masks.append(sum(1 << new for new, old in enumerate(works) if masks[place] >> old & 1))
    return ([wants[place] for place in places], [oftens[work] for work in works], turned_masks)


class DealingCase(unittest.TestCase):
    def check(self, ground, wanting=None):
        """All that [17] tells of a ground, and [2]; gives what is wanting."""
        handed_in = copy.deepcopy(ground)
        told = deal(*handed_in)
        self.assertEqual(handed_in, ground)
        self.assertIs(type(told), tuple)
        self.assertEqual([type(part) for part in told], [list, int, list], ground)
        pairs, left, paper = told
        wants, oftens, masks = ground
        for pair in pairs:
            self.assertIs(type(pair), tuple)
            self.assertEqual([type(number) for number in pair], [int, int])
        self.assertTrue(is_dealing(pairs, wants, oftens, masks), (ground, pairs))
        self.assertEqual(left, sum(wants) - len(pairs), ground)
        self.assertEqual([type(place) for place in paper], [int] * len(paper))
        self.assertEqual(paper, sorted(set(paper)), ground)
        self.assertLessEqual(set(paper), set(range(len(wants))), ground)
        self.assertEqual(shown(paper, wants, oftens, masks), left, (ground, paper))
        self.assertEqual(deal(*handed_in), told)
        if wanting is not None:
            self.assertEqual(left, wanting, ground)
        return left


class Grounds(DealingCase):
    def test_no_place(self):
        self.check(([], [], []), 0)
        self.check(([], [1, 9, 2], []), 0)

    def test_no_work(self):
        self.check(([3], [], [0]), 3)
        self.check(([0], [], [0]), 0)
        self.check(([3, 0, 60], [], [0, 0, 0]), 63)

    def test_wants_of_0(self):
        self.check(([0], [1], [1]), 0)
        self.check(([0, 0], [9, 9], [3, 3]), 0)
        self.check(([0, 1, 0], [1], [1, 1, 1]), 0)

    def test_one_place_and_one_work(self):
        for often in [1, 2, 9]:
            self.check(([1], [often], [1]), 0)
            self.check(([1], [often], [0]), 1)
            # A work may be in one pair alone with a place, however great its often.
            self.check(([2], [often], [1]), 1)
            self.check(([60], [often], [1]), 59)

    def test_what_is_told_where_there_is_but_one_way(self):
        self.assertEqual(deal([1], [1], [1]), ([(0, 0)], 0, []))
        self.assertEqual(deal([2], [1], [1]), ([(0, 0)], 1, [0]))
        self.assertEqual(deal([1], [1], [0]), ([], 1, [0]))
        self.assertEqual(deal([0], [1], [1]), ([], 0, []))
        self.assertEqual(deal([], [], []), ([], 0, []))
        self.assertEqual(deal([1, 1], [1, 1], [2, 1]), ([(0, 1), (1, 0)], 0, []))
        self.assertEqual(deal([1, 1, 1], [1, 1], [2, 1, 0]), ([(0, 1), (1, 0)], 1, [2]))

    def test_works_that_fit_all_places(self):
        self.check(([2, 2], [1, 1, 1], [7, 7]), 1)
        self.check(([2, 2], [2, 1, 1], [7, 7]), 0)
        self.check(([2, 2], [2, 2, 2], [7, 7]), 0)
        self.check(([5, 5], [2, 2, 2], [7, 7]), 4)
        self.check(([1, 1, 1], [9], [1, 1, 1]), 0)
        self.check(([1, 1, 1], [2], [1, 1, 1]), 1)

    def test_works_that_fit_no_place(self):
        self.check(([2, 2], [1, 9, 1], [0, 0]), 4)
        self.check(([2, 2], [1, 9, 1], [0, 0b100]), 3)

    def test_works_that_fit_some_places(self):
        self.check(([1, 1], [1, 1], [0b01, 0b11]), 0)
        self.check(([1, 1], [1, 1], [0b11, 0b01]), 0)
        self.check(([1, 1], [1, 1], [0b01, 0b01]), 1)
        self.check(([1, 1], [2, 1], [0b01, 0b01]), 0)
        self.check(([1, 1, 1], [1, 1, 1], [0b011, 0b011, 0b011]), 1)

    def test_beyond_the_bounds_nothing_is_refused(self):
        self.check(([70] * 18, [11] * 90, [(1 << 90) - 1] * 18), 70 * 18 - 11 * 90)


class Ways(DealingCase):
    def check_turned(self, ground, wanting):
        """However places and works are ordered, so that a greedy dealing goes wrong somewhere."""
        for places in itertools.permutations(range(len(ground[0]))):
            for works in itertools.permutations(range(len(ground[1]))):
                self.check(turned(ground, places, works), wanting)

    def test_a_pair_is_moved_on_by_one_place(self):
        self.check_turned(([1, 1], [1, 1], [0b11, 0b01]), 0)
        self.check_turned(([1, 2], [1, 1, 1], [0b111, 0b011]), 0)
        self.check_turned(([2, 2], [1, 1, 1, 1], [0b1111, 0b0011]), 0)

    def test_pairs_are_moved_on_by_two_places(self):
        self.check_turned(([1, 1, 1], [1, 1, 1], [0b011, 0b110, 0b001]), 0)
        self.check_turned(([1, 1, 1], [1, 1, 1], [0b111, 0b011, 0b001]), 0)

    def test_pairs_are_moved_on_by_three_places(self):
        self.check_turned(([1, 1, 1, 1], [1, 1, 1, 1], [0b0011, 0b0110, 0b1100, 0b0001]), 0)

    def test_works_of_a_greater_often_are_moved_on(self):
        self.check_turned(([1, 1, 1], [2, 1], [0b11, 0b11, 0b01]), 0)
        self.check_turned(([2, 1, 1], [2, 2], [0b11, 0b11, 0b01]), 0)
        self.check_turned(([2, 2, 1], [2, 2, 1], [0b011, 0b111, 0b001]), 0)

    def test_ways_that_end_at_nothing(self):
        self.check_turned(([1, 1, 1], [1, 1, 1], [0b011, 0b011, 0b011]), 1)
        self.check_turned(([2, 1, 1], [1, 1, 2], [0b011, 0b010, 0b100]), 1)
        # The places that are full and are come to stand in the paper too, others don't.
        pairs, wanting, paper = deal([1, 1, 1], [1, 1, 1], [0b001, 0b001, 0b110])
        self.assertEqual((wanting, paper), (1, [0, 1]))

    def test_a_chain_through_sixteen_places(self):
        # Place k takes works k and k + 1, the last place work 0 alone: each has to move on by one.
        masks = [3 << place for place in range(15)] + [1]
        self.check(([1] * 16, [1] * 16, masks), 0)
        self.assertEqual(
            deal([1] * 16, [1] * 16, masks)[0],
            [(0, 15)] + [(place + 1, place) for place in range(15)],
        )
        self.check(([1] * 16, [1] * 16, masks[::-1]), 0)
        draw = random.Random(3)
        # Without the work at the chain's end one is wanting.
        shorter = ([1] * 16, [1] * 15, [mask & 0x7FFF for mask in masks])
        for _ in range(50):
            places, works = list(range(16)), list(range(16))
            draw.shuffle(places)
            draw.shuffle(works)
            self.check(turned(([1] * 16, [1] * 16, masks), places, works), 0)
            works.remove(15)
            self.check(turned(shorter, places, works), 1)


class ByTrying(DealingCase):
    def check_least(self, ground):
        self.assertEqual(self.check(ground), least_by_trying(*ground), ground)

    def check_all(self, wants, oftens, places, works):
        for some_masks in itertools.product(range(1 << works), repeat=places):
            for some_wants in itertools.product(wants, repeat=places):
                for some_oftens in itertools.product(oftens, repeat=works):
                    self.check_least((list(some_wants), list(some_oftens), list(some_masks)))

    def test_all_of_one_place(self):
        self.check_all([0, 1, 2, 3], [1, 2], 1, 3)

    def test_all_of_two_places_and_two_works(self):
        self.check_all([0, 1, 2, 3], [1, 2, 3], 2, 2)

    def test_all_of_two_places_and_three_works(self):
        self.check_all([0, 1, 2], [1, 2], 2, 3)

    def test_all_of_three_places_and_two_works(self):
        self.check_all([0, 1, 2], [1, 2], 3, 2)

    def test_all_of_three_places_and_three_works_of_one_each(self):
        self.check_all([1], [1], 3, 3)

    def test_drawn_ones(self):
        draw = random.Random(8)
        for number in range(400):
            share = [0.2, 0.4, 0.6, 0.9][number % 4]
            ground = drawn_ground(draw, draw.randint(2, 5), draw.randint(2, 6), 1 + number % 3, 1 + number % 3, share)
            self.check_least(ground)


class Greatest(DealingCase):
    def test_all_fits_all(self):
        whole = (1 << 80) - 1
        self.check(([60] * 16, [9] * 80, [whole] * 16), 960 - 720)
        self.check(([45] * 16, [9] * 80, [whole] * 16), 0)
        self.check(([46] * 16, [9] * 80, [whole] * 16), 16)
        self.check(([60] * 16, [9] * 80, [0] * 16), 960)
        self.check(([60] * 12 + [0] * 4, [9] * 80, [whole] * 16), 0)

    def test_drawn_ones(self):
        draw = random.Random(9)
        for share in [0.02, 0.05, 0.1, 0.2, 0.4, 0.6, 0.8, 0.95]:
            masks = drawn_ground(draw, 16, 80, 0, 1, share)[2]
            self.check(([60] * 16, [9] * 80, masks))
            self.check(drawn_ground(draw, 16, 80, 60, 9, share))
            self.check(drawn_ground(draw, 16, 80, 20, 2, share))
            self.check(drawn_ground(draw, 16, 80, 5, 1, share))
            self.check(drawn_ground(draw, 16, 80, int(80 * share), 9, share))

    def test_wants_met_by_just_as_many(self):
        # A dealing drawn first; the ground wants just its pairs, so nothing has to be wanting.
        draw = random.Random(10)
        for _ in range(10):
            wants = [0] * 16
            masks = [0] * 16
            oftens = [draw.randint(1, 9) for _ in range(80)]
            for work, often in enumerate(oftens):
                for place in draw.sample(range(16), often):
                    wants[place] += 1
                    masks[place] |= 1 << work
            for place in range(16):
                masks[place] |= draw.getrandbits(80) & draw.getrandbits(80)
            self.check((wants, oftens, masks), 0)


class OneGroundAndAnother(DealingCase):
    def grounds(self):
        draw = random.Random(11)
        for number in range(150):
            # The greatest take the longest, so they are the fewest.
            sizes = [(2, 2, 3, 2), (3, 4, 3, 3), (5, 6, 4, 2)][number % 3] if number % 15 else (16, 80, 60, 9)
            yield draw, drawn_ground(draw, *sizes, draw.choice([0.1, 0.3, 0.6]))

    def check_fewer(self, before, after, most):
        self.assertLessEqual(after, before)
        self.assertLessEqual(before - after, most)

    def test_one_work_more(self):
        for draw, (wants, oftens, masks) in self.grounds():
            before = self.check((wants, oftens, masks))
            for often in [1, 2, 9]:
                more = [mask | draw.randint(0, 1) << len(oftens) for mask in masks]
                self.check_fewer(before, self.check((wants, oftens + [often], more)), often)
                every = [mask | 1 << len(oftens) for mask in masks]
                self.check_fewer(before, self.check((wants, oftens + [often], every)), often)
            # One that fits nowhere changes nothing.
            self.check((wants, oftens + [9], masks), before)

    def test_one_place_more_that_a_work_fits(self):
        for draw, (wants, oftens, masks) in self.grounds():
            before = self.check((wants, oftens, masks))
            for _ in range(4):
                work, place = draw.randrange(len(oftens)), draw.randrange(len(wants))
                more = list(masks)
                more[place] |= 1 << work
                self.check_fewer(before, self.check((wants, oftens, more)), 1)

    def test_an_often_greater_by_one(self):
        for draw, (wants, oftens, masks) in self.grounds():
            before = self.check((wants, oftens, masks))
            for _ in range(4):
                more = list(oftens)
                more[draw.randrange(len(oftens))] += 1
                self.check_fewer(before, self.check((wants, more, masks)), 1)

    def test_a_want_greater_by_one(self):
        for draw, (wants, oftens, masks) in self.grounds():
            before = self.check((wants, oftens, masks))
            for _ in range(4):
                more = list(wants)
                more[draw.randrange(len(wants))] += 1
                self.check_fewer(self.check((more, oftens, masks)), before, 1)

    def test_the_order_changes_nothing_of_what_is_wanting(self):
        for draw, ground in self.grounds():
            places, works = list(range(len(ground[0]))), list(range(len(ground[1])))
            draw.shuffle(places)
            draw.shuffle(works)
            self.assertEqual(self.check(turned(ground, places, works)), self.check(ground))


class HandedInAndGiven(unittest.TestCase):
    GROUND = ([1, 2, 1], [1, 2, 1], [0b011, 0b111, 0b001])

    def test_what_was_handed_in_stays(self):
        ground = copy.deepcopy(self.GROUND)
        deal(*ground)
        self.assertEqual(ground, self.GROUND)

    def test_what_was_told_is_the_askers_own(self):
        ground = ([2, 1, 1], [1, 1, 1], [0b011, 0b111, 0b001])
        first = deal(*ground)
        second = deal(*ground)
        kept = copy.deepcopy(second)
        first[0].append((9, 9))
        first[2].append(9)
        self.assertEqual(second, kept)
        self.assertEqual(deal(*ground), kept)
        for part in (0, 2):
            for given in ground:
                self.assertIsNot(second[part], given)

    def test_what_is_done_later_to_what_was_handed_in_changes_nothing(self):
        ground = copy.deepcopy(self.GROUND)
        told = deal(*ground)
        kept = copy.deepcopy(told)
        for given in ground:
            given.clear()
        self.assertEqual(told, kept)


if __name__ == "__main__":
    unittest.main()
