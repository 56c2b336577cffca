"""The calls on an object that holds a program, and their answers, as whole numbers."""

from keepparts.faults import Fault
from keepparts.form import one_form
from keepparts.grammar import read_program
from keepparts.kept import first_unlike
from keepparts.reached import Reached
from keepparts.runs import FullRuns

LOAD = 0
SHOWN = 1
RUN = 2
REACH = 3
ALL = 4
KEEP = 5
MADE = 6

# How many numbers a call has in all; load and keep tell their own length.
LENGTHS = {1: 1, 2: 3, 3: 2, 4: 1, 6: 2, 7: 2}

# A refusal is answered as its number below 0.
NO_PROGRAM = 1
NO_ENTRY = 2
NO_ASSIGNMENT = 3
NO_PART = 4


def answers(calls):
    """The answers to all calls on one new object, each with how many numbers it has ahead."""
    held = Holder()
    told = []
    place = 0
    while place < len(calls):
        behind = place + call_length(calls, place)
        told.extend(counted(held.answer(calls[place], calls[place + 1:behind])))
        place = behind
    return told


def call_length(calls, place):
    """How many numbers the call has that begins here."""
    if calls[place] in (LOAD, KEEP):
        return 2 + calls[place + 1]
    return LENGTHS[calls[place]]


def counted(numbers):
    """How many numbers there are, and they."""
    return [len(numbers)] + numbers


def all_counted(lists):
    """The lists one behind another, each with how many numbers it has ahead."""
    told = []
    for numbers in lists:
        told.extend(counted(numbers))
    return told


class Holder:
    """The object: it holds a program, its runs and what its entries reach, or None."""

    def __init__(self):
        self.program = None
        self.full_runs = None
        self.reached = None

    def answer(self, call, given):
        """The answer to a call with the numbers given behind its own."""
        if call == LOAD:
            return self.load(given[1:])
        if self.program is None:
            return [-NO_PROGRAM]
        if call == SHOWN:
            return counted(one_form(self.program))
        if call == RUN:
            return self.run(given[0], given[1])
        if call == REACH:
            return self.reach(given[0])
        if call == ALL:
            return self.sizes()
        if call == KEEP:
            return self.keep(given[1:])
        if call == MADE:
            return self.made(given[0])
        return self.part(given[0])

    def load(self, text):
        """Holds the program that a text tells, or answers the text's fault."""
        try:
            program = read_program(text)
        except Fault as fault:
            return [0, fault.code, fault.place]
        self.program = program
        self.full_runs = FullRuns(program)
        self.reached = Reached(program, self.full_runs)
        return [1, len(program.settings), len(program.parts), len(program.entries), len(program.assignments)]

    def run(self, entry, assignment):
        """How a run ends, how many statements are done, what is said, and what is entered."""
        if not self.has_entry(entry):
            return [-NO_ENTRY]
        if not 0 <= assignment < len(self.program.assignments):
            return [-NO_ASSIGNMENT]
        run = self.full_runs.full_run(entry, assignment)
        return [run.ending, run.done] + counted(run.said) + counted(run.entered)

    def reach(self, entry):
        """What an entry reaches exactly, by conditions, and by all branches."""
        if not self.has_entry(entry):
            return [-NO_ENTRY]
        return [1] + all_counted(self.reached.by_one(entry))

    def sizes(self):
        """The sizes of all parts, and of those that some entry reaches in each of three ways; and these parts."""
        reached = self.reached.by_any()
        every = list(range(len(self.program.parts)))
        return [self.program.size_of(parts) for parts in [every] + reached] + all_counted(reached)

    def keep(self, kept):
        """The sizes of these parts together if they are enough, else the first run that shows they are not."""
        if not all([self.has_part(part) for part in kept]):
            return [-NO_PART]
        left_out = [part for part in range(len(self.program.parts)) if part not in kept]
        unlike = first_unlike(self.program, self.full_runs, left_out)
        if unlike is not None:
            return [0] + unlike
        return [1, self.program.size_of(sorted(set(kept)))]

    def made(self, part):
        """How many names a part's makes make, and the parts that they mean."""
        if not self.has_part(part):
            return [-NO_PART]
        names = self.program.names_made(part)
        meant = [number for number, other in enumerate(self.program.parts) if other.name in names]
        return [len(names)] + counted(meant)

    def part(self, number):
        """A part's size and its name."""
        if not self.has_part(number):
            return [-NO_PART]
        told = self.program.parts[number]
        return [told.size] + counted([ord(sign) for sign in told.name])

    def has_entry(self, entry):
        """Tells if the program has an entry of this number."""
        return 0 <= entry < len(self.program.entries)

    def has_part(self, part):
        """Tells if the program has a part of this number."""
        return 0 <= part < len(self.program.parts)
