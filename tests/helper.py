"""What several tests of the reader share."""

from rowbreadth.errors import LineError
from rowbreadth.reader import read

FIELDS = {
    "Number": ["number"], "Here": [], "Cell": ["row"], "Shifted": ["row", "by", "other"], "Local": ["at"],
    "At": ["row", "place"], "Pair": ["sign", "left", "right"], "Choice": ["test", "left", "right"],
    "Call": ["at", "handed"], "Let": ["target", "value", "test"], "Put": ["target", "value", "place", "many", "test"],
    "Fold": ["target", "fold", "value", "many", "test"], "Running": ["target", "fold", "value", "test"],
    "Till": ["target", "most", "steps"], "Program": ["lengths", "functions", "steps"],
}


def shown(thing):
    """The thing with its class's name and its fields, so that two of them can be set side by side."""
    if isinstance(thing, (list, tuple)):
        return type(thing)(shown(part) for part in thing)
    name = type(thing).__name__
    if name in FIELDS:
        return (name,) + tuple(shown(getattr(thing, field)) for field in FIELDS[name])
    return thing


def refusal_of(text):
    """The name of the refusal's class and its line, or None where the text is read."""
    try:
        read(text)
    except LineError as e:
        return (type(e).__name__, e.line)
    return None
