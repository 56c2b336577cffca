"""Keep lists: the runs with only some parts kept, beside those with none left out."""

from keepparts.runs import alike, run_entry


def first_unlike(program, full_runs, left_out):
    """The first entry and assignment whose run is another one without the parts left out, or None.

    Behind them stands how this run ends with none left out, and how it ends so.
    """
    for entry in range(len(program.entries)):
        for assignment in range(len(program.assignments)):
            full = full_runs.full_run(entry, assignment)
            kept = run_entry(program, entry, assignment, left_out)
            if not alike(full, kept):
                return [entry, assignment, full.ending, kept.ending]
    return None
