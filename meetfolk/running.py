"""The answers to what a program asks."""

from meetfolk.choosing import longest
from meetfolk.crowds import demand_room, is_at_rest
from meetfolk.ending import end, ends, is_one_ended
from meetfolk.programs import program_of
from meetfolk.resting import always_rests
from meetfolk.ways import with_more


def crowd_by(crowds, told):
    """Return the crowd that a statement tells, be it a crowd or a join of two of these crowds."""
    if told[0] == "crowd":
        return told[2]
    return with_more(crowds[told[2]], crowds[told[3]], 1)


def answer(folk, asked, crowd):
    """Return the answer to a question, which is about the crowd if it is about one."""
    if asked == "rests":
        return always_rests(folk)
    if asked == "one":
        return is_one_ended(folk)
    if asked == "end":
        return end(folk, crowd)
    if asked == "ends":
        return ends(folk, crowd)
    if asked == "longest":
        return longest(folk, crowd)
    return is_at_rest(folk, crowd)


def run(text):
    """Return the tuple of the program's answers, in order."""
    program = program_of(text)
    moods, rules = program[0][1], ()
    crowds = {}
    answers = []
    for told in program[1:]:
        if told[0] == "rule":
            rules = rules + (told[1],)
        elif told[0] == "ask":
            answers.append(answer((moods, rules), told[1], crowds.get(told[2])))
        else:
            crowds[told[1]] = crowd_by(crowds, told)
            demand_room(crowds[told[1]])
    return tuple(answers)
