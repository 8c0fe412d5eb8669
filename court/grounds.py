"""The grounds of a course's choices, and what is told of them by names and leaf numbers."""

from court.courses import leaves_of
from court.fits import fitting, often_of


def wants_of(course, choice):
    leaves = leaves_of(course)
    return [leaves[number][1] for number in choice]


def worths_of(course, choice):
    leaves = leaves_of(course)
    # Both kinds of leaf have their worth at the end.
    return [leaves[number][-1] for number in choice]


def masks_of(course, choice, works):
    masks = fitting(course, works)
    return [masks[number] for number in choice]


def oftens_of(course, works):
    return [often_of(course, work) for work in works]


def named_pairs(pairs, choice, works):
    return sorted([(works[work][0], choice[place]) for work, place in pairs])


def paper_of(wanting, places, choice):
    return (wanting, [choice[place] for place in places])
