"""The one form in which a program is shown."""

from keepparts.program import Call, Make, Say


def one_form(program):
    """The bytes of a program's one form."""
    rows = [setting_row(setting) for setting in program.settings]
    rows.extend([part_row(part) for part in program.parts])
    rows.append(start_row(program))
    return [ord(sign) for sign in "".join([row + "\n" for row in rows])]


def setting_row(setting):
    """set X : V, V, .. ;"""
    return " ".join(["set", setting.name, ":", ", ".join(setting.words), ";"])


def part_row(part):
    """part N size K { S S .. }"""
    return " ".join(["part", part.name, "size", str(part.size), body_form(part.body)])


def start_row(program):
    """start N, N, .. ;"""
    entries = [program.parts[entry].name for entry in program.entries]
    return " ".join(["start", ", ".join(entries), ";"])


def body_form(body):
    """{ S S .. }"""
    statements = [statement_form(statement) for statement in body]
    return " ".join(["{"] + statements + ["}"])


def statement_form(statement):
    """A statement with one blank between any two of its tokens."""
    if isinstance(statement, Say):
        return " ".join(["say", str(statement.amount), ";"])
    if isinstance(statement, Call):
        return " ".join(["call", statement.name, ";"])
    if isinstance(statement, Make):
        return " ".join(["make", " + ".join(statement.pieces), ";"])
    # Whens nest at most 3 deep, so that this comes back here a few times at most.
    return " ".join(["when", statement.setting, "is", statement.word, body_form(statement.body)])
