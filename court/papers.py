"""Dealings and papers on a ground: the places' wants, the works' oftens, the masks of the works that fit a place."""

from court.bits import has


def is_rising(things):
    return all([one < other for one, other in zip(things, things[1:])])


def can_be_paired(work, place, oftens, masks):
    # Python would take a place below 0 from the list's end.
    if work < 0 or work >= len(oftens) or place < 0 or place >= len(masks):
        return False
    return has(masks[place], work)


def none_above(numbers, bounds):
    return all([numbers.count(number) <= bound for number, bound in enumerate(bounds)])


def is_dealing(pairs, wants, oftens, masks):
    if not is_rising(pairs):
        return False
    if not all([can_be_paired(work, place, oftens, masks) for work, place in pairs]):
        return False
    return none_above([work for work, place in pairs], oftens) and none_above([place for work, place in pairs], wants)


def places_fitted(work, paper, masks):
    return len([place for place in paper if has(masks[place], work)])


def shown(paper, wants, oftens, masks):
    wanted = sum([wants[place] for place in paper])
    # However the works are dealt, the paper's places can have no more of them than this.
    most = sum([min(often, places_fitted(work, paper, masks)) for work, often in enumerate(oftens)])
    return wanted - most
