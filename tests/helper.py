"""What the tests share: calls made of texts, and answers told apart."""

from keepparts.parts import answers

WORKED = (
    "set os : lin, win ; part main size 2 { call io ; make draw + os ; "
    "when os is win { call fix ; } say 1 ; } part io size 5 { say 2 ; } "
    "part drawlin size 7 { call io ; } part drawwin size 8 { say 3 ; } "
    "part fix size 4 { } part old size 9 { call fix ; } start main ;"
)
SHOWN = [1]


def as_bytes(text):
    """A text, or a list of bytes as it is, as a list of bytes."""
    return list(text.encode("latin-1")) if isinstance(text, str) else list(text)


def load(text):
    data = as_bytes(text)
    return [0, len(data)] + data


def run(entry, assignment):
    return [2, entry, assignment]


def reach(entry):
    return [3, entry]


def ask(*calls):
    """The answers to calls on one new object, each as a list of its own."""
    found = lists(answers([number for call in calls for number in call]))
    assert len(found) == len(calls), found
    return found


def load_answer(text):
    return ask(load(text))[0]


def shown(text):
    """The one form of a right program, as a text."""
    loaded, told = ask(load(text), SHOWN)
    assert loaded[0] == 1, loaded
    assert told[0] == len(told) - 1, told
    return bytes(told[1:]).decode("ascii")


def lists(numbers):
    """Lists that stand one behind another, each with its length ahead."""
    found = []
    place = 0
    while place < len(numbers):
        behind = place + 1 + numbers[place]
        found.append(numbers[place + 1:behind])
        place = behind
    assert place == len(numbers), numbers
    return found


def run_parts(text, entry=0, assignment=0):
    """How a run ends, how many statements are done, what is said, what is entered."""
    told = ask(load(text), run(entry, assignment))[1]
    said, entered = lists(told[2:])
    return told[0], told[1], said, entered


def reach_parts(text, entry=0):
    """The three lists of what an entry reaches."""
    told = ask(load(text), reach(entry))[1]
    assert told[0] == 1, told
    exactly, conditions, branches = lists(told[1:])
    return exactly, conditions, branches
