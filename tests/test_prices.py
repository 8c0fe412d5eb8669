"""[18], dealings with the greatest sum; [19], weights, what prices show, prices that show just the sum; [2]."""

import copy
import itertools
import random
import unittest

import by_words
from by_words import GREATEST
from court.dealing import deal
from court.papers import is_dealing
from court.prices import best, priced, weights_of


def drawn(draw, places, works, most_want, most_often, most_mark, share):
    return (
        [draw.randint(0, most_want) for _ in range(places)],
        [draw.randint(1, most_often) for _ in range(works)],
        [sum(1 << work for work in range(works) if draw.random() < share) for _ in range(places)],
        [draw.randint(0, most_mark) for _ in range(works)],
        [draw.randint(1, 9) for _ in range(places)],
    )


def turned(ground, places, works):
    """The same with its places and works in another order."""
    wants, oftens, masks, marks, worths = ground
    return (
        [wants[place] for place in places],
        [oftens[work] for work in works],
        [sum(1 << new for new, old in enumerate(works) if masks[place] >> old & 1) for place in places],
        [marks[work] for work in works],
        [worths[place] for place in places],
    )


class Weights(unittest.TestCase):
    def check(self, oftens, marks, worths, told):
        handed_in = (list(oftens), list(marks), list(worths))
        self.assertEqual(weights_of(*handed_in), told)
        self.assertEqual(handed_in, (oftens, marks, worths))
        self.assertEqual(by_words.weights_of(oftens, marks, worths), told)

    def test_by_hand(self):
        # B is 1 + 7 * 1 * 1.
        self.check([1], [7], [1], [[15]])
        # B is 1 + 7 * 2 * 3.
        self.check([2], [7], [3], [[64]])
        # B is 1 + (7 * 2 + 5 * 1) * 3, by the greatest worth, wherever it stands.
        self.check([2, 1], [7, 5], [3, 1], [[58 + 21, 58 + 7], [58 + 15, 58 + 5]])
        self.check([2, 1], [7, 5], [1, 3, 2], [[65, 79, 72], [63, 73, 68]])

    def test_marks_of_0(self):
        self.check([1, 9], [0, 0], [9, 1], [[1, 1], [1, 1]])
        self.check([9, 1], [0, 1], [9, 1], [[10, 10], [19, 11]])

    def test_without_a_place(self):
        self.check([], [], [], [])
        self.check([1, 9], [5, 6], [], [[], []])

    def test_without_a_work(self):
        self.check([], [], [1, 9], [])

    def test_sixty_figures(self):
        base = 1 + GREATEST * 9 * 9
        self.check([9], [GREATEST], [9, 1], [[base + 9 * GREATEST, base + GREATEST]])

    def test_drawn_ones(self):
        draw = random.Random(1)
        for number in range(200):
            _, oftens, _, marks, worths = drawn(
                draw, number % 5, draw.randint(0, 6), 1, 9, draw.choice([1, 100, GREATEST]), 1
            )
            self.check(oftens, marks, worths, by_words.weights_of(oftens, marks, worths))

    def test_rows_are_lists_of_their_own(self):
        first = weights_of([1, 1], [4, 4], [1, 2])
        first[0].append(9)
        self.assertEqual(first[1], [13 + 4 + 4, 13 + 8 + 4])
        self.assertEqual(weights_of([1, 1], [4, 4], [1, 2]), [[21, 25], [21, 25]])


class Priced(unittest.TestCase):
    # Work 0 fits both places, work 1 place 1 alone, work 2 none.
    WANTS, OFTENS, MASKS = [2, 3], [1, 4, 5], [0b001, 0b011]
    WEIGHTS = [[10, 20], [30, 40], [50, 60]]

    def check(self, place_prices, work_prices, told):
        handed_in = copy.deepcopy((self.WANTS, self.OFTENS, self.MASKS, self.WEIGHTS, place_prices, work_prices))
        kept = copy.deepcopy(handed_in)
        self.assertEqual(priced(*handed_in), told)
        self.assertEqual(handed_in, kept)
        self.assertEqual(by_words.priced(*handed_in), told)

    def test_prices_of_0(self):
        self.check([0, 0], [0, 0, 0], 10 + 20 + 40)

    def test_one_place_priced(self):
        self.check([3, 0], [0, 0, 0], 2 * 3 + 7 + 20 + 40)
        self.check([0, 3], [0, 0, 0], 3 * 3 + 10 + 17 + 37)

    def test_one_work_priced(self):
        self.check([0, 0], [3, 0, 0], 1 * 3 + 7 + 17 + 40)
        self.check([0, 0], [0, 3, 0], 4 * 3 + 10 + 20 + 37)
        # It fits nowhere, but its own price counts.
        self.check([0, 0], [0, 0, 3], 5 * 3 + 10 + 20 + 40)

    def test_both_priced(self):
        self.check([3, 5], [2, 7, 0], 2 * 3 + 3 * 5 + 1 * 2 + 4 * 7 + (10 - 5) + (20 - 7) + (40 - 12))

    def test_what_is_not_above_0_does_not_count(self):
        self.check([10, 20], [0, 0, 0], 2 * 10 + 3 * 20 + 20)
        self.check([11, 40], [0, 0, 0], 2 * 11 + 3 * 40)
        self.check([0, 0], [20, 40, 60], 20 + 160 + 300)
        self.check([9, 19], [1, 1, 0], 2 * 9 + 3 * 19 + 1 + 4 + 20)
        self.check([9, 19], [2, 1, 0], 2 * 9 + 3 * 19 + 2 + 4 + 20)
        self.check([100, 100], [100, 100, 100], 5 * 100 + 10 * 100)

    def test_nothing(self):
        self.assertEqual(priced([], [], [], [], [], []), 0)
        self.assertEqual(priced([], [2, 3], [], [[], []], [], [5, 7]), 31)
        self.assertEqual(priced([2, 3], [], [0, 0], [], [5, 7], []), 31)

    def test_drawn_ones(self):
        draw = random.Random(2)
        for number in range(400):
            wants, oftens, masks, marks, worths = drawn(
                draw, draw.randint(0, 5), draw.randint(0, 6), 3, 3, draw.choice([1, 9, GREATEST]), 0.5
            )
            weights = by_words.weights_of(oftens, marks, worths)
            top = [0, 3, 2 * max([0] + [weight for row in weights for weight in row])][number % 3]
            place_prices = [draw.randint(0, top) for _ in wants]
            work_prices = [draw.randint(0, top) for _ in oftens]
            told = priced(wants, oftens, masks, weights, place_prices, work_prices)
            self.assertEqual(
                told, by_words.priced(wants, oftens, masks, weights, place_prices, work_prices)
            )
            # No dealing weighs more than prices show.
            pairs = deal(wants, oftens, masks)[0]
            self.assertLessEqual(sum(weights[work][place] for work, place in pairs), told)


class BestCase(unittest.TestCase):
    def check(self, ground, total=None):
        """All that [18], [19] and [2] tell of what is told of a ground; gives the sum."""
        handed_in = copy.deepcopy(ground)
        told = best(*handed_in)
        self.assertEqual(handed_in, ground)
        self.assertIs(type(told), tuple)
        self.assertEqual([type(part) for part in told], [list, int, list, list])
        pairs, found, place_prices, work_prices = told
        wants, oftens, masks, marks, worths = ground
        self.assertEqual([type(pair) for pair in pairs], [tuple] * len(pairs))
        self.assertTrue(is_dealing(pairs, wants, oftens, masks), (ground, pairs))
        self.assertEqual(len(pairs), len(deal(wants, oftens, masks)[0]), ground)
        self.assertEqual(found, sum(marks[work] * worths[place] for work, place in pairs), ground)
        self.assertEqual([len(place_prices), len(work_prices)], [len(wants), len(oftens)])
        for price in place_prices + work_prices:
            self.assertIs(type(price), int)
            self.assertGreaterEqual(price, 0)
        weights = by_words.weights_of(oftens, marks, worths)
        self.assertEqual(
            by_words.priced(wants, oftens, masks, weights, place_prices, work_prices),
            sum(weights[work][place] for work, place in pairs),
            (ground, told),
        )
        self.assertEqual(best(*handed_in), told)
        if total is not None:
            self.assertEqual(found, total, ground)
        return found


class Grounds(BestCase):
    def test_no_place(self):
        self.check(([], [], [], [], []), 0)
        self.check(([], [1, 9], [], [5, GREATEST], []), 0)
        self.assertEqual(best([], [1, 9], [], [5, 6], []), ([], 0, [], [0, 0]))

    def test_no_work(self):
        self.check(([3, 0], [], [0, 0], [], [1, 9]), 0)
        self.assertEqual(best([3, 1], [], [0, 0], [], [1, 9]), ([], 0, [0, 0], []))

    def test_wants_of_0(self):
        self.check(([0], [1], [1], [5], [1]), 0)
        self.check(([0, 0], [9, 1], [3, 3], [5, 7], [9, 1]), 0)
        self.check(([0, 1, 0], [1, 1], [3, 3, 3], [5, 7], [9, 2, 9]), 14)
        self.check(([0, 2, 0], [1, 1], [3, 3, 3], [5, 7], [9, 2, 9]), 24)

    def test_one_place_and_one_work(self):
        for want in [1, 2, 60]:
            for often in [1, 2, 9]:
                for mark in [0, 1, 7, GREATEST]:
                    for worth in [1, 2, 9]:
                        self.check(([want], [often], [1], [mark], [worth]), mark * worth)
                        self.check(([want], [often], [0], [mark], [worth]), 0)

    def test_works_that_fit_all_places(self):
        self.check(([1], [1, 1, 1], [7], [5, 8, 6], [1]), 8)
        self.check(([2], [1, 1, 1], [7], [5, 8, 6], [3]), 42)
        # The greatest marks go where the worth is greatest.
        self.check(([1, 1], [1, 1, 1], [7, 7], [5, 8, 6], [1, 2]), 22)
        self.check(([1, 1], [1, 1, 1], [7, 7], [5, 8, 6], [2, 1]), 22)
        self.check(([1, 1, 1], [1, 1, 1], [7, 7, 7], [5, 8, 6], [1, 9, 4]), 72 + 24 + 5)
        self.check(([1, 1], [2, 1, 1], [7, 7], [5, 8, 6], [1, 2]), 22)
        self.check(([1, 1], [1, 2, 1], [7, 7], [5, 8, 6], [1, 2]), 24)

    def test_works_that_fit_none(self):
        self.check(([2, 2], [1, 9], [0, 0], [5, 7], [1, 9]), 0)
        self.check(([2, 2], [1, 9], [0, 2], [5, 7], [1, 9]), 63)

    def test_works_that_fit_some(self):
        self.check(([1, 1], [1, 1, 1], [0b011, 0b110], [9, 5, 1], [1, 1]), 14)
        self.check(([1, 1], [1, 1, 1], [0b011, 0b110], [1, 9, 5], [1, 1]), 14)
        self.check(([1, 1], [1, 1, 1], [0b011, 0b110], [4, 9, 5], [1, 3]), 31)
        self.check(([1, 1], [1, 1, 1], [0b011, 0b110], [4, 9, 5], [3, 1]), 32)

    def test_marks_of_0_still_make_pairs(self):
        self.check(([2, 1], [1, 1, 1], [7, 1], [0, 0, 0], [1, 9]), 0)
        self.assertEqual(len(best([2, 1], [1, 1, 1], [7, 1], [0, 0, 0], [1, 9])[0]), 3)

    def test_more_pairs_go_before_greater_marks(self):
        # Work 0 alone at place 0 would bring 900, but then work 1 has no place.
        self.check(([1, 1], [1, 1], [0b11, 0b01], [100, 1], [9, 1]), 100 + 9)
        self.check(([1, 1], [1, 1], [0b11, 0b01], [GREATEST, 0], [9, 1]), GREATEST)

    def test_marks_alike(self):
        self.check(([1, 2], [1, 1, 1], [7, 3], [6, 6, 6], [1, 1]), 18)
        self.check(([1, 1], [1, 1, 1], [7, 3], [6, 6, 6], [1, 9]), 60)
        self.check(([3, 3], [2, 2, 2, 2], [15, 15], [6, 6, 6, 6], [2, 2]), 72)

    def test_sixty_figures(self):
        ground = ([1, 1], [1, 1, 1], [7, 7], [GREATEST, GREATEST - 1, GREATEST - 2], [8, 9])
        self.check(ground, 9 * GREATEST + 8 * (GREATEST - 1))
        self.check(([2], [9, 9, 9], [7], [GREATEST, 0, GREATEST - 1], [9]), 9 * (2 * GREATEST - 1))

    def test_beyond_the_bounds_nothing_is_refused(self):
        self.check(([70] * 18, [11] * 90, [(1 << 90) - 1] * 18, [10**61] * 90, [12] * 18), 11 * 90 * 10**61 * 12)
        self.check(([1], [1], [1], [5], [10]), 50)


class Ways(BestCase):
    def check_turned(self, ground, total):
        """However places and works are ordered, so that one taken at first sight goes wrong somewhere."""
        for places in itertools.permutations(range(len(ground[0]))):
            for works in itertools.permutations(range(len(ground[1]))):
                self.check(turned(ground, places, works), total)

    def test_a_pair_taken_first_is_moved_on(self):
        # Work 0 weighs most at place 0, but place 1 takes it alone.
        self.check_turned(([1, 1], [1, 1], [0b11, 0b01], [9, 5], [9, 1]), 45 + 9)
        # Work 0 weighs most at place 0, but work 1 is only little less there, and less at place 1.
        self.check_turned(([1, 1], [1, 1], [0b11, 0b11], [9, 8], [3, 2]), 27 + 16)
        self.check_turned(([1, 1, 1], [1, 1, 1], [0b011, 0b110, 0b001], [9, 5, 1], [3, 3, 1]), 15 + 3 + 9)

    def test_a_pair_taken_first_is_given_up(self):
        # With one place work 1 would be there; with both it gives way to the pair of works 0 and 2.
        self.check_turned(([1, 1], [1, 1, 1], [0b011, 0b010], [1, 9, 5], [1, 1]), 10)
        self.check_turned(([1, 1], [1, 1, 1], [0b111, 0b010], [1, 9, 5], [9, 1]), 45 + 9)
        self.check_turned(([1, 2], [1, 1, 1], [0b111, 0b011], [9, 7, 1], [9, 1]), 9 + 9 + 7)

    def test_a_greater_worth_takes_the_greater_mark(self):
        self.check_turned(([1, 1, 1], [1, 1, 1], [0b111, 0b111, 0b111], [1, 2, 3], [1, 2, 3]), 14)
        self.check_turned(([1, 1, 1], [1, 1, 1], [0b110, 0b111, 0b011], [1, 2, 3], [1, 2, 3]), 3 + 2 + 6)
        self.check_turned(([2, 1], [1, 1, 1], [0b111, 0b111], [4, 4, 9], [2, 5]), 16 + 45)

    def test_oftens(self):
        self.check_turned(([1, 1, 1], [2, 1], [0b11, 0b11, 0b01], [5, 9], [1, 4, 9]), 36 + 5 + 45)
        self.check_turned(([2, 1], [2, 2], [0b11, 0b01], [5, 9], [2, 3]), 28 + 15)
        # The often lets one work be at both places, the want of one place lets it take but one.
        self.check_turned(([1, 1], [2, 2], [0b11, 0b11], [5, 9], [1, 9]), 90)

    def test_a_chain_through_sixteen_places(self):
        # Place k takes works k and k + 1, the last place work 0 alone: each has to be at just one place.
        masks = [3 << place for place in range(15)] + [1]
        marks = [GREATEST // (work + 1) for work in range(16)]
        worths = [1 + place % 9 for place in range(16)]
        total = marks[0] * worths[15] + sum(marks[place + 1] * worths[place] for place in range(15))
        self.check(([1] * 16, [1] * 16, masks, marks, worths), total)
        draw = random.Random(3)
        for _ in range(20):
            places, works = list(range(16)), list(range(16))
            draw.shuffle(places)
            draw.shuffle(works)
            self.check(turned(([1] * 16, [1] * 16, masks, marks, worths), places, works), total)


class ByTrying(BestCase):
    def check_greatest(self, ground):
        total = self.check(ground)
        self.assertEqual((len(best(*ground)[0]), total), by_words.best_by_trying(*ground), ground)

    def check_all(self, wants, oftens, marks, worths, places, works):
        for some_masks in itertools.product(range(1 << works), repeat=places):
            for some_wants in itertools.product(wants, repeat=places):
                for some_oftens in itertools.product(oftens, repeat=works):
                    self.check_greatest((list(some_wants), list(some_oftens), list(some_masks), marks, worths))

    def test_all_of_one_place(self):
        self.check_all([0, 1, 2], [1, 2], [3, 0, 2], [4], 1, 3)

    def test_all_of_two_places_and_two_works(self):
        for worths in [[1, 1], [1, 2], [9, 1]]:
            for marks in [[0, 1], [2, 1], [3, 3]]:
                self.check_all([0, 1, 2], [1, 2], marks, worths, 2, 2)

    def test_all_of_two_places_and_three_works(self):
        self.check_all([1, 2], [1, 2], [5, 8, 6], [2, 3], 2, 3)

    def test_all_of_three_places_and_two_works(self):
        self.check_all([1, 2], [1, 2], [5, 8], [2, 1, 4], 3, 2)

    def test_all_of_three_places_and_three_works_of_one_each(self):
        for marks, worths in [([1, 2, 3], [1, 2, 3]), ([4, 0, 4], [3, 1, 3]), ([9, 8, 1], [9, 1, 8])]:
            self.check_all([1], [1], marks, worths, 3, 3)

    def test_drawn_ones(self):
        draw = random.Random(4)
        for number in range(600):
            share = [0.2, 0.4, 0.6, 0.9][number % 4]
            most_mark = [1, 3, 100, GREATEST, 10][number % 5]
            places, works = draw.randint(2, 5), draw.randint(2, 6)
            self.check_greatest(drawn(draw, places, works, 1 + number % 3, 1 + number % 3, most_mark, share))


class Greatest(BestCase):
    def test_all_fits_all(self):
        whole = (1 << 80) - 1
        marks = [GREATEST - work for work in range(80)]
        worths = [1 + place % 9 for place in range(16)]
        self.check(([60] * 16, [9] * 80, [whole] * 16, [0] * 80, worths), 0)
        # Each of the nine places has the sixty works with the greatest marks.
        self.check(([60] * 9, [9] * 80, [whole] * 9, marks, worths[:9]), sum(marks[:60]) * sum(worths[:9]))
        self.check(([5] * 16, [1] * 80, [whole] * 16, marks, [3] * 16), 3 * sum(marks))
        # Where no place is full, every work is at the places that are worth most.
        total = sum(marks) * sum(sorted(worths)[-9:])
        self.check(([80] * 16, [9] * 80, [whole] * 16, marks, worths), total)
        self.check(([60] * 16, [9] * 80, [0] * 16, marks, worths), 0)

    def test_drawn_ones(self):
        draw = random.Random(5)
        for share in [0.02, 0.1, 0.3, 0.6, 0.95]:
            self.check(drawn(draw, 16, 80, 60, 9, GREATEST, share))
            self.check(drawn(draw, 16, 80, 20, 2, 100, share))
            self.check(drawn(draw, 16, 80, 5, 1, 3, share))
            self.check(drawn(draw, 16, 80, int(80 * share), 9, GREATEST, share))


class OneAndAnother(BestCase):
    def grounds(self):
        draw = random.Random(6)
        for number in range(60):
            sizes = [(2, 2, 3, 2), (3, 4, 3, 3), (5, 6, 4, 2)][number % 3] if number % 20 else (16, 80, 9, 3)
            most_mark = [3, 100, GREATEST][number // 3 % 3]
            yield draw, drawn(draw, *sizes, most_mark, draw.choice([0.3, 0.6, 0.9]))

    def test_one_mark_raised(self):
        for draw, (wants, oftens, masks, marks, worths) in self.grounds():
            before = self.check((wants, oftens, masks, marks, worths))
            for by in [1, 50, 10**59]:
                raised = list(marks)
                work = draw.randrange(len(marks))
                raised[work] += by
                after = self.check((wants, oftens, masks, raised, worths))
                self.assertGreaterEqual(after, before)
                self.assertLessEqual(after, before + by * oftens[work] * max(worths))

    def test_all_marks_times_a_number(self):
        for _, (wants, oftens, masks, marks, worths) in self.grounds():
            before = self.check((wants, oftens, masks, marks, worths))
            for many in [0, 2, 7]:
                times = [many * mark for mark in marks]
                self.check((wants, oftens, masks, times, worths), many * before)

    def test_a_worth_raised(self):
        for draw, (wants, oftens, masks, marks, worths) in self.grounds():
            before = self.check((wants, oftens, masks, marks, worths))
            raised = list(worths)
            raised[draw.randrange(len(worths))] += 1
            self.assertGreaterEqual(self.check((wants, oftens, masks, marks, raised)), before)

    def test_all_worths_times_a_number(self):
        for _, (wants, oftens, masks, marks, worths) in self.grounds():
            before = self.check((wants, oftens, masks, marks, worths))
            self.check((wants, oftens, masks, marks, [3 * worth for worth in worths]), 3 * before)

    def test_the_order_changes_nothing_of_the_sum(self):
        for draw, ground in self.grounds():
            places, works = list(range(len(ground[0]))), list(range(len(ground[1])))
            draw.shuffle(places)
            draw.shuffle(works)
            self.check(turned(ground, places, works), self.check(ground))


class HandedInAndGiven(unittest.TestCase):
    GROUND = ([1, 2, 1], [1, 2, 1], [0b011, 0b111, 0b001], [5, 9, 7], [1, 4, 2])

    def test_what_was_told_is_the_askers_own(self):
        ground = copy.deepcopy(self.GROUND)
        first, second = best(*ground), best(*ground)
        kept = copy.deepcopy(second)
        for part in (0, 2, 3):
            first[part].append(9)
            self.assertEqual(second, kept)
            self.assertEqual(best(*ground), kept)
            for given in ground:
                self.assertIsNot(second[part], given)
        self.assertEqual(ground, self.GROUND)

    def test_what_is_done_later_to_what_was_handed_in_changes_nothing(self):
        ground = copy.deepcopy(self.GROUND)
        told = best(*ground)
        kept = copy.deepcopy(told)
        for given in ground:
            given.clear()
        self.assertEqual(told, kept)

    def test_a_list_handed_in_twice(self):
        # The same list as wants, oftens and marks is as good as three.
        same = [1, 2]
        self.assertEqual(best(same, same, [3, 3], same, same), best([1, 2], [1, 2], [3, 3], [1, 2], [1, 2]))
        self.assertEqual(same, [1, 2])


if __name__ == "__main__":
    unittest.main()
