"""Sets of whole numbers, each told as one whole number, its mask: bit k is 1 where k is in the set."""


def mask_of(numbers):
    mask = 0
    for number in numbers:
        mask = mask | (1 << number)
    return mask


def members(mask):
    return [number for number in range(mask.bit_length()) if has(mask, number)]


def size_of(mask):
    return len(members(mask))


def has(mask, number):
    # No set has a number below 0, and a shift by one would fail.
    return number >= 0 and (mask >> number) & 1 == 1


def first_of(mask):
    if mask == 0:
        return None
    # A mask and its negative share the lowest bit alone.
    return (mask & -mask).bit_length() - 1


def last_of(mask):
    if mask == 0:
        return None
    return mask.bit_length() - 1


def shared(one, other):
    return one & other


def either(one, other):
    return one | other


def less(one, other):
    return one & ~other
