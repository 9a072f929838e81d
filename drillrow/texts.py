"""The texts of drills and of counts."""


def show_call(call):
    """Return the text of a call."""
    kind, source, target = call
    return f"{kind}{source}{target}"


def show_drill(drill):
    """Return the text of a drill."""
    if not drill:
        return "-"
    return " ".join([show_call(call) for call in drill])


def show_counts(counts):
    """Return the text of counts."""
    return ",".join([str(count) for count in counts])
