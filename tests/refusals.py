"""How refusals are asked for, and in which order they stand."""

from cutyard.errors import YardError


def refusal(ask, *parts):
    """The name of the class that refuses, or None; a refusal with `at` has None there."""
    try:
        ask(*parts)
    except YardError as error:
        fields = dict(vars(error))
        name = type(error).__name__
        expected = {"at": None} if name in ("NoText", "NoName", "Twice", "TooGreat") else {}
        if fields != expected:
            raise AssertionError(f"{name} has {fields}")
        return name
    return None
