"""[15], what is a dealing; [16], what a paper shows; [2], what is handed in."""

import copy
import itertools
import random
import unittest

from court.papers import is_dealing, shown

# Three places, four works. Work 0 fits places 0 and 1, work 1 all, work 2 place 2 alone, work 3 none.
WANTS = [2, 1, 2]
OFTENS = [1, 2, 1, 3]
MASKS = [0b0011, 0b0011, 0b0110]


def is_dealing_by_the_words(pairs, wants, oftens, masks):
    works, places = range(len(oftens)), range(len(wants))
    if any(work not in works or place not in places for work, place in pairs):
        return False
    return (
        len(set(pairs)) == len(pairs)
        and pairs == sorted(pairs)
        and all(masks[place] & 1 << work for work, place in pairs)
        and all(sum(pair[0] == work for pair in pairs) <= oftens[work] for work in works)
        and all(sum(pair[1] == place for pair in pairs) <= wants[place] for place in places)
    )


class Dealings(unittest.TestCase):
    def check(self, pairs, told, wants=WANTS, oftens=OFTENS, masks=MASKS):
        with self.subTest(pairs=pairs, wants=wants, oftens=oftens, masks=masks):
            self.assertIs(is_dealing(pairs, wants, oftens, masks), told)

    def test_the_dealing_of_no_pairs(self):
        self.check([], True)
        self.check([], True, [], [], [])
        self.check([], True, [], [1, 9], [])
        self.check([], True, [3], [], [0])
        self.check([], True, [0, 60], [1], [1, 0])

    def test_a_full_one(self):
        # Every work that fits anywhere is in as many pairs as it may be.
        self.check([(0, 0), (1, 0), (1, 1), (2, 2)], True)
        self.check([(0, 0), (0, 1), (1, 0), (1, 1)], True, [2, 2], [2, 2], [0b11, 0b11])
        self.check([(0, 0)], True, [1], [1], [1])

    def test_one_between(self):
        self.check([(1, 2)], True)
        self.check([(0, 1), (1, 0)], True)
        self.check([(0, 1), (1, 0), (1, 2), (2, 2)], True)

    def test_a_pair_twice(self):
        self.check([(1, 0), (1, 0)], False)
        # Neither an often nor a want nor the order stands in its way.
        self.check([(0, 0), (0, 0)], False, [9], [9], [1])
        self.check([(0, 0), (0, 0), (1, 0)], False, [9], [9, 9], [3])
        self.check([(0, 0), (1, 0), (1, 0)], False, [9], [9, 9], [3])

    def test_not_sorted(self):
        self.check([(1, 0), (0, 1)], False)
        self.check([(1, 1), (1, 0)], False)
        self.check([(1, 2), (1, 0)], False)
        self.check([(0, 0), (2, 2), (1, 1)], False)
        # Sorted by place, not by work.
        self.check([(1, 0), (0, 1), (2, 2)], False)

    def test_a_work_that_does_not_fit(self):
        self.check([(0, 2)], False)
        self.check([(2, 0)], False)
        self.check([(3, 0)], False)
        self.check([(3, 2)], False)
        self.check([(0, 0), (1, 1), (2, 1)], False, [1, 9, 1])
        self.check([(0, 0)], False, [1], [1], [0b10])

    def test_a_work_in_one_pair_more_than_its_often(self):
        self.check([(0, 0)], True)
        self.check([(0, 0), (0, 1)], False)
        self.check([(1, 0), (1, 1)], True)
        self.check([(1, 0), (1, 1), (1, 2)], False)
        self.check([(1, 0), (1, 1), (1, 2)], True, oftens=[1, 3, 1, 3])

    def test_a_place_in_one_more_than_it_wants(self):
        self.check([(0, 1), (1, 1)], False)
        self.check([(0, 1), (1, 1)], True, [2, 2, 2])
        self.check([(0, 0)], False, [0], [1], [1])
        self.check([(0, 0), (1, 0), (2, 0)], False, [2], [1, 1, 1], [7])
        self.check([(0, 0), (1, 0), (2, 0)], True, [3], [1, 1, 1], [7])

    def test_a_place_that_no_list_has(self):
        self.check([(1, 3)], False)
        self.check([(1, -1)], False)
        self.check([(1, -2)], False)
        self.check([(1, -3)], False)
        self.check([(1, -4)], False)
        self.check([(0, 0), (1, 3)], False)
        self.check([(0, -1)], False, [1], [1], [1])
        self.check([(0, 1)], False, [1], [1], [1])
        self.check([(0, 0)], False, [], [1], [])
        self.check([(1, 10**60)], False)
        self.check([(1, -(10**60))], False)

    def test_a_work_that_no_list_has(self):
        self.check([(4, 0)], False)
        self.check([(-1, 0)], False)
        self.check([(-2, 0)], False)
        self.check([(-4, 0)], False)
        self.check([(-5, 0)], False)
        self.check([(0, 0), (4, 2)], False)
        self.check([(-1, 0)], False, [1], [1], [1])
        self.check([(1, 0)], False, [1], [1], [1])
        self.check([(0, 0)], False, [1], [], [0])
        self.check([(10**60, 0)], False)
        self.check([(-(10**60), 0)], False)
        self.check([(-1, -1)], False)
        self.check([(4, 3)], False)

    def test_what_no_list_has_is_refused_where_a_mask_has_it(self):
        self.check([(1, 0)], False, [1], [1], [0b11])
        self.check([(2, 0)], False, [1], [1], [0b111])
        self.check([(5, 0)], False, [1], [1], [0b111111])

    def test_all_lists_of_two_pairs(self):
        numbers = range(-1, 4)
        for pairs in itertools.product(itertools.product(numbers, numbers), repeat=2):
            pairs = list(pairs)
            for oftens in [[1, 2, 1], [2, 2, 2]]:
                for wants, masks in [([1, 2, 0], [0b011, 0b111, 0b001]), ([2, 2, 2], [0b111, 0b110, 0b011])]:
                    told = is_dealing_by_the_words(pairs, wants, oftens, masks)
                    self.assertIs(is_dealing(pairs, wants, oftens, masks), told, (pairs, wants, oftens, masks))

    def test_drawn_ones(self):
        draw = random.Random(6)
        seen = {True: 0, False: 0}
        for _ in range(3000):
            wants = [draw.randint(0, 3) for _ in range(3)]
            oftens = [draw.randint(1, 3) for _ in range(4)]
            masks = [draw.randint(0, 15) | draw.randint(0, 15) for _ in range(3)]
            fitting = [(work, place) for work in range(4) for place in range(3) if masks[place] >> work & 1]
            pairs = sorted(draw.sample(fitting, draw.randint(0, min(6, len(fitting)))))
            told = is_dealing_by_the_words(pairs, wants, oftens, masks)
            self.assertIs(is_dealing(pairs, wants, oftens, masks), told, (pairs, wants, oftens, masks))
            seen[told] += 1
        self.assertGreater(min(seen.values()), 300)

    def test_the_greatest_grounds(self):
        whole = (1 << 80) - 1
        pairs = [(work, place) for work in range(80) for place in range(9)]
        self.assertFalse(is_dealing(pairs, [60] * 16, [9] * 80, [whole] * 16))
        pairs = [(work, (9 * work + k) % 16) for work in range(80) for k in range(9)]
        self.assertTrue(is_dealing(sorted(pairs), [60] * 16, [9] * 80, [whole] * 16))
        self.assertFalse(is_dealing(sorted(pairs), [60] * 15 + [44], [9] * 80, [whole] * 16))
        self.assertFalse(is_dealing(sorted(pairs), [60] * 16, [9] * 79 + [8], [whole] * 16))
        self.assertFalse(is_dealing(sorted(pairs), [60] * 16, [9] * 80, [whole] * 15 + [whole >> 1]))

    def test_what_was_handed_in_stays(self):
        for pairs in [[(0, 0), (1, 1)], [(1, 1), (0, 0)], [(1, 0), (1, 0)], [(9, 9)], []]:
            ground = (pairs, list(WANTS), list(OFTENS), list(MASKS))
            before = copy.deepcopy(ground)
            first = is_dealing(*ground)
            self.assertIs(is_dealing(*ground), first)
            self.assertEqual(ground, before)


class Papers(unittest.TestCase):
    def check(self, paper, told, wants=WANTS, oftens=OFTENS, masks=MASKS):
        with self.subTest(paper=paper, wants=wants, oftens=oftens, masks=masks):
            number = shown(paper, wants, oftens, masks)
            self.assertEqual(number, told)
            self.assertIs(type(number), int)

    def test_the_paper_of_no_places(self):
        self.check([], 0)
        self.check([], 0, [], [], [])
        self.check([], 0, [60], [9], [1])

    def test_of_one_place(self):
        self.check([0], 2 - 2)
        self.check([1], 1 - 2)
        self.check([2], 2 - 2)
        self.check([0], 7 - 0, [7], [], [0])
        self.check([0], 7 - 1, [7], [9, 9], [0b10])

    def test_of_several_and_of_all(self):
        # Work 0 has an often of 1 and fits two of them, work 1 an often of 2 and fits all.
        self.check([0, 1], 3 - (1 + 2))
        self.check([0, 2], 4 - (1 + 2 + 1))
        self.check([1, 2], 3 - (1 + 2 + 1))
        self.check([0, 1, 2], 5 - (1 + 2 + 1))

    def test_an_often_less_than_the_places_that_fit_as_great_and_greater(self):
        masks = [1, 1, 1]
        for often, told in [(1, 5), (2, 4), (3, 3), (4, 3), (9, 3)]:
            self.check([0, 1, 2], told, [1, 2, 3], [often], masks)
        for often, told in [(1, 3), (2, 2), (3, 2), (9, 2)]:
            self.check([0, 2], told, [1, 2, 3], [often], masks)

    def test_works_that_fit_none_one_or_several_of_its_places(self):
        # Work 0 fits none, work 1 place 0, work 2 places 0 and 1, work 3 all three; each has an often of 2.
        masks = [0b1110, 0b1100, 0b1000]
        wants = [10, 20, 30]
        oftens = [2, 2, 2, 2]
        self.check([0], 10 - 3, wants, oftens, masks)
        self.check([1], 20 - 2, wants, oftens, masks)
        self.check([2], 30 - 1, wants, oftens, masks)
        self.check([0, 1], 30 - (1 + 2 + 2), wants, oftens, masks)
        self.check([0, 2], 40 - (1 + 1 + 2), wants, oftens, masks)
        self.check([0, 1, 2], 60 - (1 + 2 + 2), wants, oftens, masks)

    def test_less_than_0(self):
        self.check([1], -1)
        self.check([0], -3, [0], [1, 9, 1], [0b111])
        self.check([0, 1], -5, [0, 1], [3, 3, 3], [0b111, 0b111])

    def test_places_out_of_the_paper_do_not_matter(self):
        self.check([1], 4 - 1, [60, 4, 60], [1, 1], [0b11, 0b01, 0b11])

    def test_the_greatest_grounds(self):
        whole = (1 << 80) - 1
        every = list(range(16))
        self.check(every, 960 - 720, [60] * 16, [9] * 80, [whole] * 16)
        self.check(every, 960, [60] * 16, [9] * 80, [0] * 16)
        self.check(every[:8], 480 - 640, [60] * 16, [9] * 80, [whole] * 16)
        self.check(every[:10], 600 - 720, [60] * 16, [9] * 80, [whole] * 16)

    def test_no_dealing_leaves_less_than_a_paper_shows(self):
        draw = random.Random(7)
        for _ in range(60):
            wants = [draw.randint(0, 3) for _ in range(3)]
            oftens = [draw.randint(1, 3) for _ in range(3)]
            masks = [draw.randint(0, 7) for _ in range(3)]
            fitting = [(work, place) for work in range(3) for place in range(3) if masks[place] >> work & 1]
            most = 0
            for many in range(len(fitting) + 1):
                for pairs in itertools.combinations(fitting, many):
                    if is_dealing(list(pairs), wants, oftens, masks):
                        most = many
            told = []
            for many in range(4):
                for paper in itertools.combinations(range(3), many):
                    told.append(shown(list(paper), wants, oftens, masks))
            # By [16] none is above what is left wanting, by [17] one is just that.
            self.assertEqual(max(told), sum(wants) - most, (wants, oftens, masks))

    def test_what_was_handed_in_stays(self):
        for paper in [[], [0], [0, 2], [0, 1, 2]]:
            ground = (paper, list(WANTS), list(OFTENS), list(MASKS))
            before = copy.deepcopy(ground)
            first = shown(*ground)
            self.assertEqual(shown(*ground), first)
            self.assertEqual(ground, before)


if __name__ == "__main__":
    unittest.main()
