"""Works, tuples (name, field, level, mark), and the texts that tell them."""

from court.errors import NoText

# These have a meaning of their own in a course's text, so no name or field may be one.
KEY_WORDS = ("often", "all", "some", "of", "from", "any", "or", "level", "mark", "worth", "end")
LETTERS = "abcdefghijklmnopqrstuvwxyz"
FIGURES = "0123456789"
MOST_LETTERS = 12
MOST_FIGURES = 60
MOST_WORKS = 40


def only_of(text, signs):
    return all([sign in signs for sign in text])


def is_word(thing):
    if not isinstance(thing, str):
        return False
    if len(thing) < 1 or len(thing) > MOST_LETTERS:
        return False
    return only_of(thing, LETTERS) and thing not in KEY_WORDS


def is_number(text):
    # Python's own int also takes blanks, signs and figures of other scripts, which are no numbers here.
    if len(text) < 1 or len(text) > MOST_FIGURES or not only_of(text, FIGURES):
        return False
    return text == "0" or text[0] != "0"


def read_work(row):
    parts = row.split(" ")
    if len(parts) != 4:
        return None
    if not is_word(parts[0]) or not is_word(parts[1]):
        return None
    if not is_number(parts[2]) or not is_number(parts[3]):
        return None
    return (parts[0], parts[1], int(parts[2]), int(parts[3]))


def read_works(text):
    works = []
    # Without this, the text without signs would be one row without signs, which is no work.
    if text == "":
        return works
    names = {}
    for number, row in enumerate(text.split("\n"), start=1):
        work = read_work(row)
        if work is None or work[0] in names or number > MOST_WORKS:
            raise NoText(number)
        names[work[0]] = True
        works.append(work)
    return works


def show_works(works):
    return "\n".join([f"{name} {field} {level} {mark}" for name, field, level, mark in works])
