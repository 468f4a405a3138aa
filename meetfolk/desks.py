"""Desks, at which a crowd meets, grows and shrinks, one thing done behind another."""

from meetfolk.crowds import demand_crowd, demand_folk, demand_mood, demand_room, meetings, met
from meetfolk.errors import Nobody, NothingDone
from meetfolk.lines import crowd_from, demand_no_more, folk_from
from meetfolk.ways import with_more
from meetfolk.words import demand_text


class Desk:
    """Folk and a crowd of theirs, with what was done to the crowd and isn't taken back."""

    def __init__(self, folk, crowd):
        demand_folk(folk)
        demand_crowd(folk, crowd)
        self.folk = folk
        self.here = crowd
        self.done = []

    def _turn(self, deed, behind):
        """Do what leads to the crowd `behind`, and keep the crowd ahead of it."""
        self.done.append((deed, self.here))
        self.here = behind

    def meet(self, rule):
        """Let two folk meet by the rule."""
        behind = met(self.folk, self.here, rule)
        self._turn(("meet", rule), behind)

    def join(self, crowd):
        """Let the folk of another crowd come in."""
        demand_crowd(self.folk, crowd)
        behind = with_more(self.here, crowd, 1)
        demand_room(behind)
        self._turn(("join", crowd), behind)

    def leave(self, mood):
        """Let one who is in the mood go."""
        demand_mood(self.folk, mood)
        gone = [1 if other == mood else 0 for other in self.folk[0]]
        behind = with_more(self.here, gone, -1)
        if min(behind) < 0:
            raise Nobody()
        self._turn(("leave", mood), behind)

    def undo(self):
        """Take back the last thing that was done and isn't taken back."""
        if not self.done:
            raise NothingDone()
        _, self.here = self.done.pop()

    def crowd(self):
        """Return the crowd as it is."""
        return self.here

    def row(self):
        """Return the tuple of what was done and isn't taken back."""
        return tuple([deed for deed, _ in self.done])

    def is_at_rest(self):
        """Tell whether no rule can be used in the crowd."""
        return len(meetings(self.folk, self.here)) == 0

    def text(self):
        """Return the lines of the moods, the rules and the crowd as it is."""
        moods, rules = self.folk
        told = ["rules"] + [f"{before}>{behind}" for before, behind in rules]
        numbers = ["crowd"] + [str(many) for many in self.here]
        return "".join([" ".join(words) + "\n" for words in (["moods", moods], told, numbers)])


def desk_of(text):
    """Return a new desk, at which nothing is done so far, for the text of one."""
    demand_text(text)
    lines = text.split("\n")
    folk = folk_from(lines)
    crowd = crowd_from(folk, lines)
    demand_no_more(lines)
    return Desk(folk, crowd)
