"""Programs as they are read: statements, told by tuples that begin with their keys.

They are ("moods", moods), ("rule", rule), ("crowd", name, crowd), where a mood may have more than a crowd can have,
("join", name, one name, other name) and ("ask", what is asked, the name of a crowd or None).
"""

from meetfolk.crowds import MOST_RULES, are_moods, is_mood, is_rule
from meetfolk.errors import BadMood, BadMoods, BadRule, Twice, Unknown
from meetfolk.words import demand_text, statements_of


def ascending(word):
    """Return the word with its letters in order."""
    return "".join(sorted(word))


def demand_new(names, name):
    """Raise Twice for a name that is told already."""
    if name in names:
        raise Twice(name)


def demand_known(names, name):
    """Raise Unknown for a name that isn't told so far."""
    if name not in names:
        raise Unknown(name)


def read_moods(pieces):
    """Return the statement that tells the moods."""
    if not are_moods(pieces[1]):
        raise BadMoods()
    return "moods", pieces[1]


def read_rule(moods, rules, pieces):
    """Return the statement of a rule that comes behind these rules."""
    rule = ascending(pieces[1]), ascending(pieces[3])
    if not is_rule(moods, rule) or rule in rules or len(rules) == MOST_RULES:
        raise BadRule()
    return "rule", rule


def read_crowd(moods, names, pieces):
    """Return the statement of a crowd, its parts put together."""
    demand_new(names, pieces[1])
    crowd = [0] * len(moods)
    for number, mood in zip(pieces[3::3], pieces[4::3]):
        if not is_mood(moods, mood):
            raise BadMood()
        crowd[moods.index(mood)] += int(number)
    return "crowd", pieces[1], tuple(crowd)


def read_join(names, pieces):
    """Return the statement of a join."""
    demand_new(names, pieces[1])
    demand_known(names, pieces[3])
    demand_known(names, pieces[5])
    return "join", pieces[1], pieces[3], pieces[5]


def read_ask(names, pieces):
    """Return the statement of an ask."""
    if pieces[2] == ";":
        return "ask", pieces[1], None
    demand_known(names, pieces[2])
    return "ask", pieces[1], pieces[2]


def read_statement(moods, rules, names, pieces):
    """Return a statement that comes behind these moods, rules and names."""
    if pieces[0] == "rule":
        return read_rule(moods, rules, pieces)
    if pieces[0] == "crowd":
        return read_crowd(moods, names, pieces)
    if pieces[0] == "join":
        return read_join(names, pieces)
    return read_ask(names, pieces)


def program_of(text):
    """Return the list of the program's statements, or raise the first error of check."""
    demand_text(text)
    statements = statements_of(text)
    program = [read_moods(statements[0])]
    moods = program[0][1]
    rules, names = [], []
    for pieces in statements[1:]:
        told = read_statement(moods, rules, names, pieces)
        if told[0] == "rule":
            rules.append(told[1])
        elif told[0] != "ask":
            names.append(told[1])
        program.append(told)
    return program
