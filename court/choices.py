"""The choices of a course: lists of leaf numbers, each a way of meeting its rule."""

from court.courses import is_leaf, leaves_of_rule, rules_of
from court.errors import TooMany

MOST_CHOICES = 32


def many_of(group):
    # `all` takes every one of its rules, so it is told like a `some` of as many as there are.
    return group[1] if group[0] == "some" else len(rules_of(group))


def sum_of_products(numbers, many):
    # At place k stands the sum over all ways of taking k of the numbers so far: each new number is left or taken.
    sums = [1] + [0] * many
    for number in numbers:
        sums = [1] + [sums[k] + number * sums[k - 1] for k in range(1, many + 1)]
    return sums[many]


def count_of_rule(rule):
    if is_leaf(rule):
        return 1
    return sum_of_products([count_of_rule(inner) for inner in rules_of(rule)], many_of(rule))


def count_choices(course):
    return count_of_rule(course[1])


def ways_of_taking(many, first, end):
    if many < 1:
        return [[]]
    ways = []
    # The places from first on and below end; so many behind the one taken have to be left for the others.
    for place in range(first, end - many + 1):
        ways.extend([[place] + rest for rest in ways_of_taking(many - 1, place + 1, end)])
    return ways


def put_together(heads, tails):
    found = []
    for head in heads:
        found.extend([head + tail for tail in tails])
    return found


def choices_of_rules(rules, first):
    found = []
    for rule in rules:
        found.append(choices_of_rule(rule, first))
        # Leaves are counted over the whole course, whether or not their rule is taken.
        first = first + len(leaves_of_rule(rule))
    return found


def choices_of_rule(rule, first):
    if is_leaf(rule):
        return [[first]]
    parts = choices_of_rules(rules_of(rule), first)
    found = []
    for way in ways_of_taking(many_of(rule), 0, len(parts)):
        together = [[]]
        for place in way:
            together = put_together(together, parts[place])
        found.extend(together)
    return found


def choices(course):
    # No rule within has more choices than the course, so those of a course that is not refused are few everywhere.
    if count_choices(course) > MOST_CHOICES:
        raise TooMany(MOST_CHOICES)
    return choices_of_rule(course[1], 0)
