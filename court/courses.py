"""Courses, tuples (oftens, rule): a rule is a leaf or a group of rules."""


def is_leaf(rule):
    return rule[0] in ("from", "of")


def rules_of(group):
    # Behind `some` stands a number too, so the place from the front differs.
    return group[-1]


def copy_of_leaf(leaf):
    # The words are a list: shared, it could be changed behind the course's back.
    return leaf[:2] + (list(leaf[2]),) + leaf[3:]


def leaves_of_rule(rule):
    if is_leaf(rule):
        return [copy_of_leaf(rule)]
    leaves = []
    for inner in rules_of(rule):
        leaves.extend(leaves_of_rule(inner))
    return leaves


def leaves_of(course):
    return leaves_of_rule(course[1])
