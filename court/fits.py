"""Which works fit which leaves of a course, and how often a work may count in it."""

from court.bits import mask_of
from court.courses import leaves_of


def fits_from(leaf, work):
    fields = leaf[2]
    if len(fields) > 0 and work[1] not in fields:
        return False
    return work[2] >= leaf[3] and work[3] >= leaf[4]


def fits_of(leaf, work):
    return work[0] in leaf[2] and work[3] >= leaf[3]


def fits(leaf, work):
    # The two kinds of leaf have their marks at unlike places.
    if leaf[0] == "from":
        return fits_from(leaf, work)
    return fits_of(leaf, work)


def often_of(course, work):
    for field, often in course[0]:
        if field == work[1]:
            return often
    return 1


def fitting_mask(leaf, works):
    return mask_of([place for place, work in enumerate(works) if fits(leaf, work)])


def fitting(course, works):
    return [fitting_mask(leaf, works) for leaf in leaves_of(course)]
