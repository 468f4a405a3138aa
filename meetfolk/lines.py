"""The lines of a desk's text, as they are read.

The lines are those of a text that is split at its line ends. So the last one is what stands behind the last line
end, and is empty if nothing does.
"""

from meetfolk.crowds import are_moods, is_crowd, is_folk
from meetfolk.errors import InvalidDesk
from meetfolk.words import is_number

# Those of 10 ** 40. Python turns no text of several thousand figures into an integer.
MOST_FIGURES = 41

MOODS_AT = 0
RULES_AT = 1
CROWD_AT = 2
LAST_AT = 3


def words_behind(lines, at, key):
    """Return the words behind the key of a line; raise InvalidDesk if there is no such line with a line end."""
    if at >= len(lines) - 1:
        raise InvalidDesk(at)
    words = lines[at].split(" ")
    if words[0] != key:
        raise InvalidDesk(at)
    return words[1:]


def moods_from(lines):
    """Return the moods that the lines tell."""
    words = words_behind(lines, MOODS_AT, "moods")
    if len(words) != 1 or not are_moods(words[0]):
        raise InvalidDesk(MOODS_AT)
    return words[0]


def folk_from(lines):
    """Return the folk that the lines tell."""
    moods = moods_from(lines)
    words = words_behind(lines, RULES_AT, "rules")
    folk = moods, tuple([(word[:2], word[3:]) for word in words])
    if not all(word[2:3] == ">" for word in words) or not is_folk(folk):
        raise InvalidDesk(RULES_AT)
    return folk


def crowd_from(folk, lines):
    """Return the crowd of the folk that the lines tell."""
    words = words_behind(lines, CROWD_AT, "crowd")
    if not all(is_number(word, MOST_FIGURES) for word in words):
        raise InvalidDesk(CROWD_AT)
    crowd = tuple([int(word) for word in words])
    if not is_crowd(folk, crowd):
        raise InvalidDesk(CROWD_AT)
    return crowd


def demand_no_more(lines):
    """Raise InvalidDesk if anything stands behind the line of the crowd."""
    if lines[LAST_AT:] != [""]:
        raise InvalidDesk(LAST_AT)
