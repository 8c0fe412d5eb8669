"""The texts of courses: one row for each often, then the rows of the rule."""

from court.courses import is_leaf, rules_of
from court.errors import NoText
from court.works import is_number, is_word

MOST_WANT = 60
MOST_OFTEN = 9
MOST_WORDS = 8
MOST_OFTENS = 16
MOST_LEAVES = 16
MOST_RULES = 16
MOST_GROUPS = 6

# The key words that may stand behind a leaf's words, each with a number, in this order.
KEYS = {"from": ("level", "mark", "worth"), "of": ("mark", "worth")}
# The number where the key word is left out; one that is written is greater, so that a leaf has one row alone.
LEFT_OUT = {"level": 0, "mark": 0, "worth": 1}
MOST_WRITTEN = {
    "level": 999999999999999999999999999999999999999999999999999999999999,
    "mark": 999999999999999999999999999999999999999999999999999999999999,
    "worth": 9,
}


def read_number(text, least, most):
    if not is_number(text):
        return None
    number = int(text)
    if number < least or number > most:
        return None
    return number


def are_words(words):
    if len(words) > MOST_WORDS or len(set(words)) < len(words):
        return False
    return all([is_word(word) for word in words])


def words_ahead(parts):
    words = parts[:1]
    # An `or` that is the last of all has no word behind it, and stays with what is left over.
    while len(parts) > 2 * len(words) and parts[2 * len(words) - 1] == "or":
        words.append(parts[2 * len(words)])
    return words


def read_values(parts, keys):
    values = []
    place = 0
    for key in keys:
        if place + 1 < len(parts) and parts[place] == key:
            values.append(read_number(parts[place + 1], LEFT_OUT[key] + 1, MOST_WRITTEN[key]))
            place = place + 2
        else:
            values.append(LEFT_OUT[key])
    if place < len(parts) or None in values:
        return None
    return values


def read_leaf(parts):
    if len(parts) < 3 or parts[1] not in KEYS:
        return None
    kind = parts[1]
    want = read_number(parts[0], 0, MOST_WANT)
    words = words_ahead(parts[2:])
    values = read_values(parts[1 + 2 * len(words):], KEYS[kind])
    if kind == "from" and words == ["any"]:
        words = []
    if want is None or values is None or not are_words(words):
        return None
    return (kind, want, words) + tuple(values)


def read_group(parts):
    if parts == ["all"]:
        return ("all", [])
    if len(parts) != 3 or parts[0] != "some" or parts[2] != "of":
        return None
    many = read_number(parts[1], 1, MOST_RULES)
    if many is None:
        return None
    return ("some", many, [])


def least_rules(group):
    return group[1] if group[0] == "some" else 1


# The rows are taken one by one, and each is refused where it stands, so that the first bad row is the one told.
class CourseReader:
    def __init__(self):
        self.oftens = []
        # The groups whose `end` has not come yet, the outermost first.
        self.groups = []
        self.leaves = 0
        self.rule = None

    def take(self, row):
        if self.rule is not None:
            return False
        parts = row.split(" ")
        if parts[0] == "often":
            return self.take_often(parts)
        if parts[0] in ("all", "some"):
            return self.take_group(read_group(parts))
        if parts == ["end"]:
            return self.take_end()
        return self.take_leaf(read_leaf(parts))

    def take_often(self, parts):
        if len(self.groups) > 0 or len(self.oftens) == MOST_OFTENS:
            return False
        if len(parts) != 3 or not is_word(parts[2]):
            return False
        often = read_number(parts[1], 1, MOST_OFTEN)
        if often is None or parts[2] in [field for field, number in self.oftens]:
            return False
        self.oftens.append((parts[2], often))
        return True

    def take_group(self, group):
        if group is None or len(self.groups) == MOST_GROUPS or not self.has_room():
            return False
        self.groups.append(group)
        return True

    def take_end(self):
        if len(self.groups) == 0:
            return False
        group = self.groups.pop()
        if len(rules_of(group)) < least_rules(group):
            return False
        self.put_rule(group)
        return True

    def take_leaf(self, leaf):
        if leaf is None or self.leaves == MOST_LEAVES or not self.has_room():
            return False
        self.leaves = self.leaves + 1
        self.put_rule(leaf)
        return True

    def has_room(self):
        return len(self.groups) == 0 or len(rules_of(self.groups[-1])) < MOST_RULES

    def put_rule(self, rule):
        if len(self.groups) == 0:
            self.rule = rule
        else:
            rules_of(self.groups[-1]).append(rule)


def read_course(text):
    reader = CourseReader()
    rows = text.split("\n")
    for number, row in enumerate(rows, start=1):
        if not reader.take(row):
            raise NoText(number)
    if reader.rule is None:
        raise NoText(len(rows) + 1)
    return (reader.oftens, reader.rule)


def show_leaf(leaf):
    shown = [str(leaf[1]), leaf[0], " or ".join(leaf[2]) if len(leaf[2]) > 0 else "any"]
    for key, value in zip(KEYS[leaf[0]], leaf[3:]):
        if value != LEFT_OUT[key]:
            shown.extend([key, str(value)])
    return " ".join(shown)


def show_head(group):
    if group[0] == "all":
        return "all"
    many = group[1]
    return f"some {many} of"


def rows_of_rule(rule):
    if is_leaf(rule):
        return [show_leaf(rule)]
    rows = [show_head(rule)]
    for inner in rules_of(rule):
        rows.extend(rows_of_rule(inner))
    rows.append("end")
    return rows


def show_course(course):
    rows = [f"often {often} {field}" for field, often in course[0]]
    return "\n".join(rows + rows_of_rule(course[1]))
