"""The calls on an object that holds a program, and their answers, as whole numbers."""

from keepparts.faults import Fault
from keepparts.form import one_form
from keepparts.grammar import read_program
from keepparts.reached import Reached
from keepparts.runs import run_entry

LOAD = 0
SHOWN = 1
RUN = 2

# How many numbers shown, run and reach have in all; load tells its own length.
LENGTHS = {1: 1, 2: 3, 3: 2}

# A refusal is answered as its number below 0.
NO_PROGRAM = 1
NO_ENTRY = 2
NO_ASSIGNMENT = 3


def answers(calls):
    """The answers to all calls on one new object, each with how many numbers it has ahead."""
    held = Holder()
    told = []
    place = 0
    while place < len(calls):
        behind = place + call_length(calls, place)
        told.extend(counted(held.answer(calls[place], calls[place + 1:behind])))
        place = behind
    return told


def call_length(calls, place):
    """How many numbers the call has that begins here."""
    if calls[place] == LOAD:
        return 2 + calls[place + 1]
    return LENGTHS[calls[place]]


def counted(numbers):
    """How many numbers there are, and they."""
    return [len(numbers)] + numbers


class Holder:
    """The object: it holds a program and what its entries reach, or None."""

    def __init__(self):
        self.program = None
        self.reached = None

    def answer(self, call, given):
        """The answer to a call with the numbers given behind its own."""
        if call == LOAD:
            return self.load(given[1:])
        if self.program is None:
            return [-NO_PROGRAM]
        if call == SHOWN:
            return counted(one_form(self.program))
        if call == RUN:
            return self.run(given[0], given[1])
        return self.reach(given[0])

    def load(self, text):
        """Holds the program that a text tells, or answers the text's fault."""
        try:
            program = read_program(text)
        except Fault as fault:
            return [0, fault.code, fault.place]
        self.program = program
        self.reached = Reached(program)
        return [1, len(program.settings), len(program.parts), len(program.entries), len(program.assignments)]

    def run(self, entry, assignment):
        """How a run ends, how many statements are done, what is said, and what is entered."""
        if not self.has_entry(entry):
            return [-NO_ENTRY]
        if not 0 <= assignment < len(self.program.assignments):
            return [-NO_ASSIGNMENT]
        run = run_entry(self.program, entry, assignment, [])
        return [run.ending, run.done] + counted(run.said) + counted(run.entered)

    def reach(self, entry):
        """What an entry reaches exactly, by conditions, and by all branches."""
        if not self.has_entry(entry):
            return [-NO_ENTRY]
        told = [1]
        told.extend(counted(self.reached.exactly(entry)))
        told.extend(counted(self.reached.by_conditions(entry)))
        told.extend(counted(self.reached.by_branches(entry)))
        return told

    def has_entry(self, entry):
        """Tells if the program has an entry of this number."""
        return 0 <= entry < len(self.program.entries)
