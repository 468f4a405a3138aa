"""A plain reading of programs, by regular expressions, to hold the package against; and programs of every kind."""

import random
import re

from tests.values import all_rules

KEYS = "moods rule crowd join ask rests one end ends rest longest".split()
CODES = dict(zip(KEYS, "mrcjatteeee"))
PIECE = re.compile(r"[a-z]+|[A-Z]+|[0-9]+|[^ \n]")
NUMBER = re.compile(r"0|[1-9][0-9]{0,29}")
WHOLE = r"(?:rW>W;|cN=#W(?:,#W)*;|jN=N\+N;|a(?:t|eN);)"
BEGUN = r"(?:r(?:W(?:>W?)?)?|rW>W;?|cN?|cN=(?:#W,)*(?:#W?)?|cN=#W(?:,#W)*|j(?:N(?:=(?:N(?:\+N?)?)?)?)?|a(?:t|eN?)?)?"
VIABLE = re.compile(rf"m?|mW|mW;{WHOLE}*{BEGUN}")
COMPLETE = re.compile(rf"mW;{WHOLE}*")


def code_of(piece, runs_together):
    """One letter for a piece: W, N, # or what it is; ? if it can stand nowhere."""
    if runs_together:
        return "?"
    if piece in CODES:
        return CODES[piece]
    for code, form in (("W", r"[a-z]{1,6}"), ("N", r"[A-Z]{1,8}"), ("#", NUMBER.pattern), (piece, r"[=;,>+]")):
        if re.fullmatch(form, piece):
            return code
    return "?"


def plain_pieces(text):
    """The pieces of a text, as (code, piece, index)."""
    found = []
    for match in PIECE.finditer(text):
        ahead = text[match.start() - 1] if match.start() else " "
        together = bool(re.fullmatch(r"[a-zA-Z0-9]", match.group()[0]) and re.fullmatch(r"[a-zA-Z0-9]", ahead))
        found.append((code_of(match.group(), together), match.group(), match.start()))
    return found


def plain_place(text):
    """The place of InvalidText, None if the text is made as a program is."""
    if len(text) > 2000:
        return 2000
    codes = ""
    for code, _, at in plain_pieces(text):
        codes += code
        if not VIABLE.fullmatch(codes):
            return at
    return None if COMPLETE.fullmatch(codes) else len(text)


def plain_statements(text):
    """The statements, each the list of its pieces without the signs."""
    pieces = [piece for _, piece, _ in plain_pieces(text)]
    found = [[]]
    for piece in pieces:
        if piece == ";":
            found.append([])
        elif piece not in "=,>+":
            found[-1].append(piece)
    return found[:-1]


def wrong_moods(moods):
    return moods != "".join(sorted(set(moods)))


def plain_wrong(statements):
    """What is wrong with the statements, by their order, as a tuple of an error's name and its fields; None."""
    moods = statements[0][1]
    if wrong_moods(moods):
        return ("BadMoods",)
    known, rules, names = all_rules(moods), [], []
    for key, *words in statements[1:]:
        if key == "rule":
            rules.append(tuple("".join(sorted(word)) for word in words))
            if rules[-1] not in known or rules.count(rules[-1]) > 1 or len(rules) > 12:
                return ("BadRule",)
        elif key == "ask":
            if words[1:] and words[1] not in names:
                return "Unknown", words[1]
        else:
            if words[0] in names:
                return "Twice", words[0]
            if key == "crowd" and any(len(mood) > 1 or mood not in moods for mood in words[2::2]):
                return ("BadMood",)
            for name in words[1:] if key == "join" else []:
                if name not in names:
                    return "Unknown", name
            names.append(words[0])
    return None


def plain_check(text):
    """The error of check as a tuple of its name and its fields, None if there is none."""
    place = plain_place(text)
    if place is not None:
        return "InvalidText", place
    return plain_wrong(plain_statements(text))


def plain_line(moods, key, words):
    """The line of a statement in its plain form."""
    if key == "moods":
        return f"moods {words[0]};"
    if key == "rule":
        return "rule {} > {};".format(*("".join(sorted(word)) for word in words))
    if key == "join":
        return "join {} = {} + {};".format(*words)
    if key == "ask":
        return f"ask {' '.join(words)};"
    parts = list(zip(words[1::2], words[2::2]))
    sums = [(sum(int(number) for number, mood in parts if mood == own), own) for own in moods]
    told = [f"{many} {own}" for many, own in sums if many] or [f"0 {moods[0]}"]
    return f"crowd {words[0]} = {', '.join(told)};"


def plain_printed(text):
    """What is printed of a program."""
    statements = plain_statements(text)
    moods = statements[0][1]
    return "\n".join(plain_line(moods, key, words) for key, *words in statements)


def some_name(dice):
    return "".join(dice.choice("XYZ") for _ in range(dice.choice((1, 1, 1, 2, 8))))


def some_number(dice):
    return str(dice.choice((0, 1, 2, 3, 8, 10 ** 29, 10 ** 30 - 1, dice.randrange(10 ** 30))))


def some_two(dice, moods):
    return "".join(dice.choice(moods) for _ in range(2))


def some_statement(dice, moods, names):
    """The pieces of a statement that mostly is right behind these names; a name that it tells comes to them."""
    kind = dice.choice(("rule", "crowd", "crowd", "join", "ask", "ask"))
    if kind == "rule":
        return ["rule", some_two(dice, moods), ">", some_two(dice, moods), ";"]
    if not names and dice.random() < 0.98:
        kind = "crowd"
    if kind == "ask" and dice.random() < 0.3:
        return ["ask", dice.choice(("rests", "one")), ";"]
    known = [dice.choice(names) if names and dice.random() < 0.97 else some_name(dice) for _ in range(2)]
    if kind == "ask":
        return ["ask", dice.choice(("end", "ends", "longest", "rest")), known[0], ";"]
    name = dice.choice(names) if names and dice.random() < 0.03 else "XYZ"[len(names) % 3] * (len(names) // 3 + 1)
    names.append(name)
    if kind == "join":
        return ["join", name, "=", known[0], "+", known[1], ";"]
    pieces = ["crowd", name, "="]
    for _ in range(dice.randint(1, 4)):
        mood = dice.choice(moods) if dice.random() < 0.98 else some_two(dice, "abcxyz")[dice.randrange(2):]
        pieces += [some_number(dice), mood, ","]
    return pieces[:-1] + [";"]


def some_pieces(dice):
    """The pieces of a program that mostly is right."""
    moods = "".join(sorted(dice.sample("abcxyz", dice.randint(1, 6))))
    pieces, names = ["moods", moods, ";"], []
    for _ in range(dice.randint(0, 12)):
        pieces += some_statement(dice, moods, names)
    return pieces


def joined(dice, pieces):
    """The text of the pieces, with blanks and line ends at random, but always where they must stand."""
    text = ""
    for piece in pieces:
        must = text[-1:].isalnum() and piece[0].isalnum()
        text += "".join(dice.choice(" \n") for _ in range(dice.choice((0, 0, 1, 2)) + must)) + piece
    return text + dice.choice(("", "", " ", "\n", " \n \n"))


def some_programs(many, seed):
    """Texts of which most are programs."""
    dice = random.Random(seed)
    return [joined(dice, some_pieces(dice)) for _ in range(many)]


ODD_PIECES = KEYS + "ab abcdef abcdefg X XXXXXXXX XXXXXXXXX 0 1 00 01 = ; , > + - aB Xa 7a ?".split() + [
    "9" * 30, "9" * 31, "\t", "\r", "\x0b", "\u00a0", "\u2003", "\u00e4", "\u0663", "",
]


def spoilt(dice, text):
    """The text with some sign or piece left out, put in or put in another's place."""
    at = dice.randint(0, len(text))
    kind = dice.randrange(4)
    if kind == 0:
        return text[:at] + text[at + 1:]
    if kind == 1:
        return text[:at]
    if kind == 2:
        return text[:at] + dice.choice((" ", "\n", "a", "A", "7", ";", "\t", "\u00e9")) + text[at:]
    pieces = [piece for _, piece, _ in plain_pieces(text)]
    if pieces:
        pieces[dice.randrange(len(pieces))] = dice.choice(ODD_PIECES)
    return " ".join(pieces)


def spoilt_programs(many, seed):
    """Texts of which most are no programs, but nearly."""
    dice = random.Random(seed)
    return [spoilt(dice, joined(dice, some_pieces(dice))) for _ in range(many)]
