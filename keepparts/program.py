"""Programs: settings, parts with their statements, and entries."""


class Setting:
    """A setting: its name and its words."""

    def __init__(self, name, words):
        self.name = name
        self.words = words


class Part:
    """A part: its name, its size, and its statements."""

    def __init__(self, name, size, body):
        self.name = name
        self.size = size
        self.body = body


class Say:
    """say K."""

    def __init__(self, amount):
        self.amount = amount


class Call:
    """call M: the called part by its name, as it may be told later."""

    def __init__(self, name):
        self.name = name


class Make:
    """make P + P ..: the pieces by their names."""

    def __init__(self, pieces):
        self.pieces = pieces


class When:
    """when X is V: the setting and the word by their names, and the statements within."""

    def __init__(self, setting, word, body):
        self.setting = setting
        self.word = word
        self.body = body

    def holds(self, words):
        """Tells if this assignment's words are such that what stands within is done."""
        return words[self.setting] == self.word


class Program:
    """A program that is right. Its entries are numbers of parts.

    An assignment is kept as a dict: each setting's name with the word chosen for it.
    """

    def __init__(self, settings, parts, entries):
        self.settings = settings
        self.parts = parts
        self.entries = entries
        self.assignments = assignments_of(settings)
        self.numbers = {}
        for number, part in enumerate(parts):
            self.numbers[part.name] = number

    def meant(self, statement, words):
        """The number of the part that a call or a make means in this assignment, or None."""
        if isinstance(statement, Call):
            return self.numbers[statement.name]
        return self.numbers.get(made_name(statement, words))

    def names_made(self, part):
        """The unlike names that a part's makes make, in whatever assignment, also in any when."""
        statements = statements_within(self.parts[part].body, None)
        makes = [statement for statement in statements if isinstance(statement, Make)]
        found = {}
        for words in self.assignments:
            for make in makes:
                found[made_name(make, words)] = True
        return list(found)

    def size_of(self, parts):
        """The sizes of these parts together."""
        return sum([self.parts[part].size for part in parts])


def statements_within(body, words):
    """The statements of a body and of the whens in it.

    With an assignment's words only of the whens that hold in it, with None of all.
    """
    found = []
    bodies = [body]
    while bodies:
        statements = bodies.pop()
        for statement in statements:
            found.append(statement)
            if isinstance(statement, When) and (words is None or statement.holds(words)):
                bodies.append(statement.body)
    return found


def made_name(make, words):
    """The name that a make makes in an assignment with these words."""
    return "".join([words.get(piece, piece) for piece in make.pieces])


def assignments_of(settings):
    """All assignments in their order."""
    how_many = 1
    for setting in settings:
        how_many *= len(setting.words)
    return [assignment_of(settings, number) for number in range(how_many)]


def assignment_of(settings, number):
    """The assignment of this number; the first setting's words change fastest."""
    words = {}
    rest = number
    for setting in settings:
        words[setting.name] = setting.words[rest % len(setting.words)]
        rest //= len(setting.words)
    return words
