"""Goes through the examples of a part of the document, kept beside as a text.

A text has lines ">>> code". Behind code that is an expression stands either its value, or
"raises" and the error; code that sets names has nothing behind it. Other lines are left out.
"""

import os

from onlywith import errors

FOLDER = os.path.join(os.path.dirname(os.path.abspath(__file__)), "examples")


def examples_of(text):
    """The pairs (code, what stands behind it), None for nothing."""
    lines = [line.strip() for line in text.splitlines()]
    pairs = []
    for place, line in enumerate(lines):
        if line.startswith(">>> "):
            behind = lines[place + 1] if place + 1 < len(lines) else ""
            pairs.append((line[4:], None if behind.startswith(">>> ") or not behind else behind))
    return pairs


def outcome(work):
    """What a call returns, told as the document tells it; or what it raises."""
    try:
        return repr(work())
    except errors.WithError as error:
        kept = ", ".join(repr(value) for value in vars(error).values())
        return f"raises {error.__class__.__name__}({kept})"


def wrong_examples(name):
    """The triples (code, expected, found) of the examples that do not hold, and how many there are."""
    with open(os.path.join(FOLDER, name), encoding="utf-8") as file:
        pairs = examples_of(file.read())
    names = {}
    wrong = []
    for code, behind in pairs:
        if behind is None:
            exec(code, names)
            continue
        found = outcome(lambda: eval(code, names))
        expected = behind if behind.startswith("raises ") else repr(eval(behind))
        if found != expected:
            wrong.append((code, expected, found))
    return wrong, len(pairs)
