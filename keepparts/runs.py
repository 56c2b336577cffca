"""Runs: a program's entry, done under one assignment."""

from keepparts.program import Call, Say, When

WELL = 0
TOO_DEEP = 1
TOO_LONG = 2
MISSING = 3

MOST_STATEMENTS = 100
MOST_WITHIN = 9


def run_entry(program, entry, assignment, left_out):
    """The run of an entry and an assignment, each by its number, without the parts left out."""
    run = Run(program, program.assignments[assignment], left_out)
    run.require(program.entries[entry])
    return run


def alike(one, other):
    """Tells if two runs say the same and end likewise."""
    return one.said == other.said and one.ending == other.ending


class FullRuns:
    """The runs of a program with no part left out.

    Each is done once, when it is asked for first, as many calls may ask for it.
    """

    def __init__(self, program):
        self.program = program
        self.known = {}

    def full_run(self, entry, assignment):
        """The run of an entry and an assignment, each by its number."""
        if (entry, assignment) not in self.known:
            self.known[(entry, assignment)] = run_entry(self.program, entry, assignment, [])
        return self.known[(entry, assignment)]


class Run:
    """A run: how it ends, how many statements are done, what is said, which parts are entered.

    The limits on statements and on parts within one another keep it short and flat enough
    for methods that call one another.
    """

    def __init__(self, program, words, left_out):
        self.program = program
        self.words = words
        self.left_out = left_out
        self.ending = WELL
        self.done = 0
        self.said = []
        self.entered = []
        self.within = 0

    def require(self, part):
        """Enters a part that can't be done without: the entry, or one that is called."""
        if part in self.left_out:
            self.ending = MISSING
        else:
            self.enter(part)

    def enter(self, part):
        """Enters a part and does its statements, unless it would stand too deep."""
        if part not in self.entered:
            self.entered.append(part)
        if self.within == MOST_WITHIN:
            self.ending = TOO_DEEP
            return
        self.within += 1
        self.do_body(self.program.parts[part].body)
        self.within -= 1

    def do_body(self, body):
        """Does statements in order, as long as the run goes on."""
        for statement in body:
            if self.ending != WELL:
                return
            if self.done == MOST_STATEMENTS:
                self.ending = TOO_LONG
                return
            self.done += 1
            self.do_statement(statement)

    def do_statement(self, statement):
        """Does one statement that is counted already."""
        if isinstance(statement, Say):
            self.said.append(statement.amount)
        elif isinstance(statement, When):
            if statement.holds(self.words):
                self.do_body(statement.body)
        elif isinstance(statement, Call):
            self.require(self.program.meant(statement, self.words))
        else:
            part = self.program.meant(statement, self.words)
            if part is not None and part not in self.left_out:
                self.enter(part)
