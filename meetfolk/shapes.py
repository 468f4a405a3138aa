"""The shapes of crowds at rest, other letters for moods by which the rules stay the same, and moods in classes.

A text with a letter for each mood tells what it is called: by such a text for likenesses no two moods are called the
same, by one for classes all moods of a class are called by the first one.
"""

from itertools import permutations

from meetfolk.crowds import demand_crowd, demand_folk
from meetfolk.errors import BadClasses, BadShape, NoLump


def demand_shape(folk, value):
    """Raise BadShape for a value that is no shape of crowds of the folk."""
    if not isinstance(value, str) or len(value) != len(folk[0]):
        raise BadShape()
    if not all(sign in "*1." for sign in value):
        raise BadShape()


def fits(many, sign):
    """Tell whether so many may be in a mood for which a shape has this sign."""
    if sign == "1":
        return many <= 1
    return sign == "*" or many == 0


def groups_of(moods):
    """Return the list of all texts of some of the moods, none too, in their order."""
    groups = [""]
    for mood in moods:
        groups = groups + [group + mood for group in groups]
    return groups


def keeps_quiet(folk, group):
    """Tell whether no rule is for two unlike moods of the group."""
    return not any(rule[0][0] != rule[0][1] and rule[0][0] in group and rule[0][1] in group for rule in folk[1])


def is_full(folk, group):
    """Tell whether no other mood can come to a quiet group without some rule for it."""
    return not any(mood not in group and keeps_quiet(folk, group + mood) for mood in folk[0])


def sign_for(folk, group, mood):
    """Return what stands for the mood in the shape of the crowds at rest with folk in moods of the group alone."""
    if mood not in group:
        return "."
    return "1" if any(rule[0] == mood + mood for rule in folk[1]) else "*"


def shape_for(folk, group):
    """Return the shape of the crowds at rest with folk in moods of the group, a quiet one, alone."""
    return "".join([sign_for(folk, group, mood) for mood in folk[0]])


def two_called(moods, letters, two):
    """Return the text of two moods as they are called by these letters."""
    return "".join(sorted([letters[moods.index(mood)] for mood in two]))


def rules_called(folk, letters):
    """Return the list of the folk's rules with their moods as they are called by these letters."""
    moods, rules = folk
    return [(two_called(moods, letters, before), two_called(moods, letters, behind)) for before, behind in rules]


def first_moods(moods, classes):
    """Return the text of the moods that are the first ones of their classes."""
    return "".join([mood for mood, first in zip(moods, classes) if mood == first])


def all_classes(moods):
    """Return the list of all classes of the moods, ascending."""
    found = [""]
    for mood in moods:
        found = [classes + first for classes in found for first in first_moods(moods, classes) + mood]
    return found


def demand_classes(folk, value):
    """Raise BadClasses for a value that does not tell classes of the folk's moods."""
    if value not in all_classes(folk[0]):
        raise BadClasses()


def all_pairs(moods):
    """Return the list of the texts of two moods, ascending or alike."""
    return [moods[at] + other for at in range(len(moods)) for other in moods[at:]]


def can_be_lumped(folk, classes):
    """Tell whether any two pairs of moods that are the same by the classes can turn to the same pairs by them."""
    moods, rules = folk
    turned = [behind for _, behind in rules_called(folk, classes)]
    found = {}
    for two in all_pairs(moods):
        here = two_called(moods, classes, two)
        others = sorted({there for rule, there in zip(rules, turned) if rule[0] == two and there != here})
        if found.setdefault(here, others) != others:
            return False
    return True


def is_of_shape(folk, crowd, shape):
    """Tell whether the crowd is of the shape."""
    demand_folk(folk)
    demand_crowd(folk, crowd)
    demand_shape(folk, shape)
    return all(fits(many, sign) for many, sign in zip(crowd, shape))


def rest_shapes(folk):
    """Return the ascending tuple of the shapes of crowds at rest, none of which can be left out.

    A crowd is at rest if the moods that its folk are in keep quiet, and no two are in a mood with a rule for two of
    it. The groups that keep quiet and are full have all others in them, and none of them has all of another one.
    """
    demand_folk(folk)
    quiet = [group for group in groups_of(folk[0]) if keeps_quiet(folk, group)]
    return tuple(sorted([shape_for(folk, group) for group in quiet if is_full(folk, group)]))


def likenesses(folk):
    """Return the ascending tuple of the texts of all moods by which the rules, so called, are the same ones."""
    demand_folk(folk)
    moods, rules = folk
    texts = ["".join(order) for order in permutations(moods)]
    same = sorted(rules)
    return tuple(sorted([text for text in texts if sorted(rules_called(folk, text)) == same]))


def lumps(folk):
    """Return the ascending tuple of all classes by which the folk's moods can be lumped."""
    demand_folk(folk)
    return tuple([classes for classes in all_classes(folk[0]) if can_be_lumped(folk, classes)])


def lumped(folk, classes):
    """Return the folk whose moods are the first ones of the classes and whose rules are the rules by classes."""
    demand_folk(folk)
    demand_classes(folk, classes)
    if not can_be_lumped(folk, classes):
        raise NoLump()
    rules = sorted({rule for rule in rules_called(folk, classes) if rule[0] != rule[1]})
    return first_moods(folk[0], classes), tuple(rules)


def lumped_crowd(folk, classes, crowd):
    """Return how many of the crowd are in each class."""
    demand_folk(folk)
    demand_classes(folk, classes)
    demand_crowd(folk, crowd)
    firsts = first_moods(folk[0], classes)
    return tuple([sum([many for many, first in zip(crowd, classes) if first == mood]) for mood in firsts])
