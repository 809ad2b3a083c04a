"""What the doors refuse alike. No line is told, so `at` is None."""

from cutyard.errors import NoName, TooGreat, Twice


def refuse_more(count, most):
    """Refuse more than may be."""
    if count > most:
        raise TooGreat(None)


def refuse_twice(names):
    """Refuse names of which two are alike."""
    came = {}
    for name in names:
        if name in came:
            raise Twice(None)
        came[name] = True


def refuse_strange(names, known):
    """Refuse a name that is none of the known ones."""
    for name in names:
        if name not in known:
            raise NoName(None)
