"""Runs sessions as the document writes them."""


def run_session(text):
    """Return the list of pairs (found, due) of the answers that a session tells, in the form of texts."""
    names = {}
    pairs = []
    call = None
    for line in text.strip().split("\n"):
        if line.startswith(">>> "):
            call = line[len(">>> "):]
            if not is_asked(text, line):
                exec(call, names)
        else:
            pairs.append((answer_of(call, names, line), line))
    return pairs


def is_asked(text, line):
    """Tell whether an answer stands behind a line."""
    lines = text.strip().split("\n")
    behind = lines.index(line) + 1
    return behind < len(lines) and not lines[behind].startswith(">>> ")


def answer_of(call, names, due):
    """Return the answer of a call as the document would write it."""
    if not due.startswith("raises "):
        return repr(eval(call, names))
    try:
        eval(call, names)
    except ValueError as error:
        fields = ", ".join([repr(field) for field in vars(error).values()])
        return f"raises {error.__class__.__name__}({fields})"
    return "raises nothing"
