"""The words, names, numbers and signs of a program's text, and which of them may stand where.

All of these are called pieces. A piece counts as a key or a sign, then as itself; else as a "WORD", a "NAME" or a
"NUMBER"; or as "WRONG", if it can stand nowhere. Behind all pieces the text's "FINISH" counts as one, too.
"""

from meetfolk.errors import InvalidText, NotText

MOST_SIGNS = 2000
MOST_LETTERS = 6
MOST_CAPITALS = 8
MOST_FIGURES = 30

KEYS = ("moods", "rule", "crowd", "join", "ask", "rests", "one", "end", "ends", "rest", "longest")

# Several signs of one of these kinds, one behind another, are one piece.
RUNS = ("WORD", "NAME", "NUMBER")

# For each point of a program, what may stand there, and the point that is come to behind it.
BEHIND = {
    ("begin", "moods"): "moods",
    ("moods", "WORD"): "close",
    ("close", ";"): "statement",
    ("statement", "rule"): "from",
    ("from", "WORD"): "turn",
    ("turn", ">"): "to",
    ("to", "WORD"): "close",
    ("statement", "crowd"): "new crowd",
    ("new crowd", "NAME"): "equal parts",
    ("equal parts", "="): "part",
    ("part", "NUMBER"): "mood",
    ("mood", "WORD"): "close part",
    ("close part", ","): "part",
    ("close part", ";"): "statement",
    ("statement", "join"): "new join",
    ("new join", "NAME"): "equal crowds",
    ("equal crowds", "="): "first crowd",
    ("first crowd", "NAME"): "plus",
    ("plus", "+"): "last crowd",
    ("last crowd", "NAME"): "close",
    ("statement", "ask"): "question",
    ("question", "rests"): "close",
    ("question", "one"): "close",
    ("question", "end"): "last crowd",
    ("question", "ends"): "last crowd",
    ("question", "longest"): "last crowd",
    ("question", "rest"): "last crowd",
    ("statement", "FINISH"): "behind all",
}


def demand_text(value):
    """Raise NotText for a value that is no text."""
    if not isinstance(value, str):
        raise NotText()


def kind_of(sign):
    """Return what kind of piece a sign of the text makes, or "BLANK", for line ends, too."""
    if "a" <= sign <= "z":
        return "WORD"
    if "A" <= sign <= "Z":
        return "NAME"
    if "0" <= sign <= "9":
        return "NUMBER"
    return "BLANK" if sign in " \n" else "SIGN"


def is_number(text, most):
    """Tell whether the text is a number of at most so many figures, without needless zeros."""
    if not 1 <= len(text) <= most or not all(kind_of(sign) == "NUMBER" for sign in text):
        return False
    return text == "0" or text[0] != "0"


def stop_of_piece(text, at):
    """Return the index behind the piece, or the blank, that begins at this index."""
    kind = kind_of(text[at])
    stop = at + 1
    while kind in RUNS and stop < len(text) and kind_of(text[stop]) == kind:
        stop += 1
    return stop


def counts_as(kind, piece):
    """Return what a piece of this kind, which runs together with no other one, counts as."""
    if kind == "SIGN" or piece in KEYS:
        return piece
    if kind == "WORD":
        return kind if len(piece) <= MOST_LETTERS else "WRONG"
    if kind == "NAME":
        return kind if len(piece) <= MOST_CAPITALS else "WRONG"
    return kind if is_number(piece, MOST_FIGURES) else "WRONG"


def pieces_of(text):
    """Return the list of (what it counts as, the piece, its index) for each piece of the text, and its finish."""
    pieces = []
    at = 0
    ahead = "BLANK"
    while at < len(text):
        kind, stop = kind_of(text[at]), stop_of_piece(text, at)
        if kind in RUNS and ahead in RUNS:
            # A blank must stand here: this one runs together with the one ahead of it.
            pieces.append(("WRONG", text[at:stop], at))
        elif kind != "BLANK":
            pieces.append((counts_as(kind, text[at:stop]), text[at:stop], at))
        ahead = kind
        at = stop
    pieces.append(("FINISH", "", len(text)))
    return pieces


def statements_of(text):
    """Return the list of the program's statements, each the list of its pieces, or raise InvalidText."""
    if len(text) > MOST_SIGNS:
        raise InvalidText(MOST_SIGNS)
    point = "begin"
    statements = []
    statement = []
    for what, piece, at in pieces_of(text):
        if (point, what) not in BEHIND:
            raise InvalidText(at)
        point = BEHIND[point, what]
        statement.append(piece)
        if piece == ";":
            statements.append(statement)
            statement = []
    return statements
