"""Whether folk always come to rest, and the papers that show it."""

from meetfolk.balancing import balance
from meetfolk.crowds import behind_row, demand_folk, is_crowd, is_integer, numbers_of
from meetfolk.errors import AlwaysRests, NeverRests


def loss_of(moods, rule):
    """Return how many each mood loses by one use of the rule."""
    gone = numbers_of(moods, rule[0])
    come = numbers_of(moods, rule[1])
    return tuple([less - more for less, more in zip(gone, come)])


def balance_of(folk):
    """Return (weights, None) if the folk always rest, else (None, uses): a round's number of uses of each rule."""
    moods, rules = folk
    return balance([loss_of(moods, rule) for rule in rules], len(moods))


def round_by(folk, uses):
    """Return a crowd and the row of the uses, which lead it back to itself.

    The crowd has for each use two folk of its own, so that the row could stand in any order.
    """
    moods, rules = folk
    crowd = [0] * len(moods)
    row = []
    for rule, times in zip(rules, uses):
        row.extend([rule] * times)
        for at, need in enumerate(numbers_of(moods, rule[0])):
            crowd[at] += times * need
    return tuple(crowd), tuple(row)


def are_weights(folk, value):
    """Tell whether the value is a tuple of an integer from 0 on for each mood by which each rule loses."""
    moods, rules = folk
    if not isinstance(value, tuple) or len(value) != len(moods):
        return False
    if not all(is_integer(weight) and weight >= 0 for weight in value):
        return False
    return all(weighed_loss(moods, value, rule) > 0 for rule in rules)


def weighed_loss(moods, held, rule):
    """Return by how much the weights of the rule's from are more than those of its to."""
    return sum(weight * loss for weight, loss in zip(held, loss_of(moods, rule)))


def is_round(folk, crowd, row):
    """Tell whether these values are a crowd and a tuple of one rule or more that leads it back to itself."""
    if not is_crowd(folk, crowd) or not isinstance(row, tuple) or len(row) == 0:
        return False
    return behind_row(folk, crowd, row) == crowd


def always_rests(folk):
    """Tell whether no crowd of any size can be kept meeting for ever."""
    demand_folk(folk)
    held, _ = balance_of(folk)
    return held is not None


def weights(folk):
    """Return a tuple of weights from 0 on by which each rule loses."""
    demand_folk(folk)
    held, _ = balance_of(folk)
    if held is None:
        raise NeverRests()
    return held


def round_of(folk):
    """Return a crowd and a tuple of one rule or more that leads it back to itself."""
    demand_folk(folk)
    _, uses = balance_of(folk)
    if uses is None:
        raise AlwaysRests()
    return round_by(folk, uses)


def rest_paper(folk):
    """Return the paper that shows whether the folk always rest."""
    demand_folk(folk)
    held, uses = balance_of(folk)
    if held is not None:
        return "weights", held
    crowd, row = round_by(folk, uses)
    return "round", crowd, row


def judged_rest(folk, paper):
    """Tell whether the paper, which may be any value, shows what it tells of the folk."""
    demand_folk(folk)
    if not isinstance(paper, tuple):
        return False
    if len(paper) == 2 and paper[0] == "weights":
        return are_weights(folk, paper[1])
    if len(paper) == 3 and paper[0] == "round":
        return is_round(folk, paper[1], paper[2])
    return False
