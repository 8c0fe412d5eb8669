"""The document's sums and the trying out of all there is, written apart from the program, for the tests to hold it to."""

import functools
import itertools

FIELDS = ["maths", "art", "music", "law"]
NAMES = ["algebra", "logic", "zoo", "poem", "choir", "court", "sum", "ink", "oak", "yes"]
GREATEST = 10**60 - 1


def any_leaf(want, level=0, mark=0, worth=1):
    return ("from", want, [], level, mark, worth)


def field_leaf(want, *fields, level=0, mark=0, worth=1):
    return ("from", want, list(fields), level, mark, worth)


def name_leaf(want, *names, mark=0, worth=1):
    return ("of", want, list(names), mark, worth)


def every(*rules):
    return ("all", list(rules))


def some(many, *rules):
    return ("some", many, list(rules))


def leaves_of(rule):
    if rule[0] in ("from", "of"):
        return [rule]
    return [leaf for inner in rule[-1] for leaf in leaves_of(inner)]


def choices_of(rule, first=0):
    if rule[0] in ("from", "of"):
        return [[first]]
    parts = []
    for inner in rule[-1]:
        parts.append(choices_of(inner, first))
        first += len(leaves_of(inner))
    many = len(parts) if rule[0] == "all" else rule[1]
    found = []
    for taken in itertools.combinations(parts, many):
        for chosen in itertools.product(*taken):
            found.append(sum(chosen, []))
    return found


def fits(leaf, work):
    name, field, level, mark = work
    if leaf[0] == "of":
        return name in leaf[2] and mark >= leaf[3]
    return (leaf[2] == [] or field in leaf[2]) and level >= leaf[3] and mark >= leaf[4]


def often_of(course, work):
    return dict(course[0]).get(work[1], 1)


def ground_of(course, works, choice):
    leaves = leaves_of(course[1])
    return (
        [leaves[number][1] for number in choice],
        [often_of(course, work) for work in works],
        [sum(1 << place for place, work in enumerate(works) if fits(leaves[number], work)) for number in choice],
    )


def worths_of(course, choice):
    return [leaves_of(course[1])[number][-1] for number in choice]


def fitted_places(masks, work):
    return [place for place, mask in enumerate(masks) if mask >> work & 1]


def shown(paper, wants, oftens, masks):
    """[16]"""
    told = sum(wants[place] for place in paper)
    for work, often in enumerate(oftens):
        told -= min(often, len([place for place in fitted_places(masks, work) if place in paper]))
    return told


def weights_of(oftens, marks, worths):
    """[19]"""
    base = 1
    for often, mark in zip(oftens, marks):
        base += mark * often * (max(worths) if worths else 1)
    return [[base + mark * worth for worth in worths] for mark in marks]


def priced(wants, oftens, masks, weights, place_prices, work_prices):
    """[19]"""
    told = 0
    for place, want in enumerate(wants):
        told += want * place_prices[place]
    for work, often in enumerate(oftens):
        told += often * work_prices[work]
        for place in fitted_places(masks, work):
            told += max(0, weights[work][place] - place_prices[place] - work_prices[work])
    return told


def best_by_trying(wants, oftens, masks, marks, worths):
    """The most pairs of any dealing, and the greatest sum of one with so many, by trying all dealings."""
    works = len(oftens)
    fitted = [fitted_places(masks, work) for work in range(works)]

    @functools.lru_cache(maxsize=None)
    def most(work, still):
        if work == works:
            return (0, 0)
        found = []
        for many in range(oftens[work] + 1):
            for places in itertools.combinations(fitted[work], many):
                after = list(still)
                for place in places:
                    after[place] -= 1
                if min(after, default=0) >= 0:
                    pairs, total = most(work + 1, tuple(after))
                    found.append((pairs + many, total + sum(marks[work] * worths[place] for place in places)))
        return max(found)

    return most(0, tuple(wants))


def judged_by_trying(course, works, choice):
    """What a choice leaves wanting, and its marks [20]."""
    wants, oftens, masks = ground_of(course, works, choice)
    pairs, marks = best_by_trying(wants, oftens, masks, [work[3] for work in works], worths_of(course, choice))
    return (sum(wants) - pairs, marks)


def is_named_dealing(pairs, course, works, choice):
    """[15], by names and leaf numbers."""
    leaves = leaves_of(course[1])
    named = {work[0]: work for work in works}
    return (
        pairs == sorted(set(pairs))
        and all(name in named and leaf in choice and fits(leaves[leaf], named[name]) for name, leaf in pairs)
        and all(sum(pair[0] == work[0] for pair in pairs) <= often_of(course, work) for work in works)
        and all(sum(pair[1] == leaf for pair in pairs) <= leaves[leaf][1] for leaf in choice)
    )


def drawn_leaf(draw, most_want, most_mark):
    want = draw.randint(0, most_want)
    worth = draw.choice([1, 1, 2, 3, 9])
    mark = draw.choice([0, 0, draw.randint(0, most_mark)])
    if draw.random() < 0.3:
        return ("of", want, draw.sample(NAMES, draw.randint(1, 5)), mark, worth)
    return ("from", want, draw.sample(FIELDS, draw.choice([0, 1, 1, 2])), draw.choice([0, 0, 1, 2]), mark, worth)


def drawn_rule(draw, depth, room, most_want, most_mark):
    """A rule of at most `room` leaves, with at most `depth` groups within one another."""
    if depth == 0 or room == 1 or draw.random() < 0.15:
        return drawn_leaf(draw, most_want, most_mark)
    rules = []
    while room > 0 and (not rules or draw.random() < 0.8):
        rules.append(drawn_rule(draw, depth - 1, room, most_want, most_mark))
        room -= len(leaves_of(rules[-1]))
    return draw.choice([("all", rules), ("some", draw.randint(1, len(rules)), rules)])


def drawn_course(draw, depth=2, room=5, most_want=2, most_mark=5, most_often=3):
    """One of at most 32 choices."""
    while True:
        rule = drawn_rule(draw, depth, room, most_want, most_mark)
        if len(choices_of(rule)) <= 32:
            fields = draw.sample(FIELDS, draw.randint(0, 2))
            return ([(field, draw.randint(1, most_often)) for field in fields], rule)


def drawn_works(draw, names, most_mark=5, fields=FIELDS):
    return [(name, draw.choice(fields), draw.randint(0, 3), draw.randint(0, most_mark)) for name in names]


def many_names(many):
    """As many unlike words."""
    return ["".join(letters) for letters in itertools.islice(itertools.product("abcdefghij", repeat=3), many)]


def text_of_works(works):
    """[5]"""
    return "\n".join(" ".join(str(part) for part in work) for work in works)


def rows_of(rule):
    if rule[0] == "all":
        return ["all", *[row for inner in rule[1] for row in rows_of(inner)], "end"]
    if rule[0] == "some":
        return ["some " + str(rule[1]) + " of", *[row for inner in rule[2] for row in rows_of(inner)], "end"]
    row = str(rule[1]) + " " + rule[0] + " " + (" or ".join(rule[2]) or "any")
    if rule[0] == "from" and rule[3] != 0:
        row += " level " + str(rule[3])
    if rule[-2] != 0:
        row += " mark " + str(rule[-2])
    if rule[-1] != 1:
        row += " worth " + str(rule[-1])
    return [row]


def text_of_course(course):
    """[9]"""
    return "\n".join(["often " + str(often) + " " + field for field, often in course[0]] + rows_of(course[1]))
