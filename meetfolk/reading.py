"""Whether a text is a program, and the program in its plain form."""

from meetfolk.programs import program_of


def parts_of(moods, crowd):
    """Return the text of the parts of a crowd, by mood."""
    parts = [f"{many} {mood}" for many, mood in zip(crowd, moods) if many > 0]
    return ", ".join(parts) if parts else f"0 {moods[0]}"


def line_of(moods, told):
    """Return the line of a statement without its line end."""
    if told[0] == "moods":
        return f"moods {told[1]};"
    if told[0] == "rule":
        return f"rule {told[1][0]} > {told[1][1]};"
    if told[0] == "crowd":
        return f"crowd {told[1]} = {parts_of(moods, told[2])};"
    if told[0] == "join":
        return f"join {told[1]} = {told[2]} + {told[3]};"
    if told[2] is None:
        return f"ask {told[1]};"
    return f"ask {told[1]} {told[2]};"


def check(text):
    """Raise the error of the first thing that is wrong with the program; return None if nothing is."""
    program_of(text)


def printed(text):
    """Return the program in its plain form: one statement a line."""
    program = program_of(text)
    moods = program[0][1]
    return "\n".join([line_of(moods, told) for told in program])
