"""Folk, crowds of them, and the crowds that come of their meetings."""

from meetfolk.errors import BadCrowd, BadFolk, BadNumber, BadRow, BadRule, NoMood, TooGreat

MOST_MOODS = 6
MOST_RULES = 12
MOST_IN_A_MOOD = 10 ** 40


def is_integer(value):
    """Tell whether the value is an integer, which a bool never is."""
    return isinstance(value, int) and not isinstance(value, bool)


def is_pair(value):
    """Tell whether the value is a tuple of two."""
    return isinstance(value, tuple) and len(value) == 2


def are_moods(value):
    """Tell whether the value is a text of 1 to 6 unlike letters a to z, ascending."""
    if not isinstance(value, str) or not 1 <= len(value) <= MOST_MOODS:
        return False
    if not all("a" <= mood <= "z" for mood in value):
        return False
    return all(value[at] < value[at + 1] for at in range(len(value) - 1))


def is_mood(moods, value):
    """Tell whether the value is one of the moods."""
    return isinstance(value, str) and len(value) == 1 and value in moods


def are_two(moods, value):
    """Tell whether the value is a text of two of the moods, ascending or alike."""
    if not isinstance(value, str) or len(value) != 2:
        return False
    return value[0] in moods and value[1] in moods and value[0] <= value[1]


def is_rule(moods, value):
    """Tell whether the value is a pair of unlike texts of two of the moods each."""
    if not is_pair(value):
        return False
    return are_two(moods, value[0]) and are_two(moods, value[1]) and value[0] != value[1]


def are_rules(moods, value):
    """Tell whether the value is a tuple of at most 12 unlike rules of the moods."""
    if not isinstance(value, tuple) or len(value) > MOST_RULES:
        return False
    # Only rules, which are tuples of texts, are sure to have a place in a set.
    return all(is_rule(moods, rule) for rule in value) and len(set(value)) == len(value)


def is_folk(value):
    """Tell whether the value is folk: a pair of moods and rules."""
    return is_pair(value) and are_moods(value[0]) and are_rules(value[0], value[1])


def is_crowd(folk, value):
    """Tell whether the value is a crowd of the folk: how many are in each mood."""
    if not isinstance(value, tuple) or len(value) != len(folk[0]):
        return False
    return all(is_integer(many) and 0 <= many <= MOST_IN_A_MOOD for many in value)


def demand_folk(value):
    """Raise BadFolk for a value that is no folk."""
    if not is_folk(value):
        raise BadFolk()


def demand_crowd(folk, value):
    """Raise BadCrowd for a value that is no crowd of the folk."""
    if not is_crowd(folk, value):
        raise BadCrowd()


def demand_mood(folk, value):
    """Raise NoMood for a value that is no mood of the folk."""
    if not is_mood(folk[0], value):
        raise NoMood()


def demand_number(value, most):
    """Raise BadNumber for a value that is no integer from 0 to `most`."""
    if not is_integer(value) or not 0 <= value <= most:
        raise BadNumber()


def demand_room(crowd):
    """Raise TooGreat if more are in one mood than a crowd can have."""
    if any(many > MOST_IN_A_MOOD for many in crowd):
        raise TooGreat()


def numbers_of(moods, two):
    """Return for each mood how often it stands in a text of two moods."""
    return tuple([two.count(mood) for mood in moods])


def can_be_used(folk, crowd, rule):
    """Tell whether the rule is one of the folk's and the two of its from are in the crowd."""
    if rule not in folk[1]:
        return False
    needed = numbers_of(folk[0], rule[0])
    return all(many >= need for many, need in zip(crowd, needed))


def behind_rule(folk, crowd, rule):
    """Return the crowd behind a rule that can be used, however many are then in a mood."""
    gone = numbers_of(folk[0], rule[0])
    come = numbers_of(folk[0], rule[1])
    return tuple([many - less + more for many, less, more in zip(crowd, gone, come)])


def behind_row(folk, crowd, row):
    """Return the crowd behind a row of rules, however many are then in a mood.

    None tells that the row is no tuple of rules that can be used one behind another.
    """
    if not isinstance(row, tuple):
        return None
    for rule in row:
        if not can_be_used(folk, crowd, rule):
            return None
        crowd = behind_rule(folk, crowd, rule)
    return crowd


def meetings(folk, crowd):
    """Return the tuple of the rules that can be used in the crowd, in the folk's order."""
    demand_folk(folk)
    demand_crowd(folk, crowd)
    return tuple([rule for rule in folk[1] if can_be_used(folk, crowd, rule)])


def met(folk, crowd, rule):
    """Return the crowd behind one use of the rule."""
    demand_folk(folk)
    demand_crowd(folk, crowd)
    if not can_be_used(folk, crowd, rule):
        raise BadRule()
    behind = behind_rule(folk, crowd, rule)
    demand_room(behind)
    return behind


def is_at_rest(folk, crowd):
    """Tell whether no rule can be used in the crowd."""
    return len(meetings(folk, crowd)) == 0


def met_all(folk, crowd, row):
    """Return the crowd behind the rules of a row, one behind another."""
    demand_folk(folk)
    demand_crowd(folk, crowd)
    behind = behind_row(folk, crowd, row)
    if behind is None:
        raise BadRow()
    # A mood may have too many on the way: only the crowd behind the whole row is told.
    demand_room(behind)
    return behind
