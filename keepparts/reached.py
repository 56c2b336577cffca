"""What an entry reaches: exactly, by conditions, and by all branches."""

from keepparts.program import Call, Make, statements_within


class Reached:
    """What the entries of one program reach.

    Which part leads straight to which is found once, as many calls may ask for it.
    """

    def __init__(self, program, full_runs):
        self.program = program
        self.full_runs = full_runs
        self.tables_by_conditions = [link_table(program, words, False) for words in program.assignments]
        self.tables_by_branches = [link_table(program, words, True) for words in program.assignments]

    def by_one(self, entry):
        """What an entry reaches: exactly, by conditions, and by all branches."""
        return [self.exactly(entry), self.by_conditions(entry), self.by_branches(entry)]

    def by_any(self):
        """What some entry reaches, in the same three ways."""
        found = [[], [], []]
        for entry in range(len(self.program.entries)):
            for way, parts in enumerate(self.by_one(entry)):
                found[way].extend(parts)
        return [sorted(set(parts)) for parts in found]

    def exactly(self, entry):
        """The parts that are entered in some run of the entry, in order."""
        found = []
        for assignment in range(len(self.program.assignments)):
            found.extend(self.full_runs.full_run(entry, assignment).entered)
        return sorted(set(found))

    def by_conditions(self, entry):
        """The parts that the entry comes to within some one assignment, in order."""
        first = self.program.entries[entry]
        found = []
        for table in self.tables_by_conditions:
            found.extend(come_to(first, [table]))
        return sorted(set(found))

    def by_branches(self, entry):
        """The parts that the entry comes to by whatever assignments and in any when, in order."""
        return sorted(come_to(self.program.entries[entry], self.tables_by_branches))


def link_table(program, words, any_when):
    """For each part the parts that it leads straight to in an assignment."""
    return [links(program, part.body, words, any_when) for part in program.parts]


def links(program, body, words, any_when):
    """The parts that these statements lead straight to; with any_when also where no when holds."""
    found = []
    for statement in statements_within(body, None if any_when else words):
        if isinstance(statement, (Call, Make)):
            part = program.meant(statement, words)
            if part is not None and part not in found:
                found.append(part)
    return found


def come_to(first, tables):
    """A part and all that it leads to, in however many steps, each over any of the tables."""
    found = [first]
    waiting = [first]
    while waiting:
        part = waiting.pop()
        for table in tables:
            for link in table[part]:
                if link not in found:
                    found.append(link)
                    waiting.append(link)
    return found
