"""Values: what a hole, a choice and a loop find by their names in scopes."""

from sealpress.errors import NoKind, NoValue
from sealpress.signs import need_text

MOST_ROWS = 60


def value_of(scopes, name):
    """The very value of a name in the innermost scope that has it; refused with NoValue."""
    for scope in reversed(scopes):
        if name in scope:
            return scope[name]
    raise NoValue(name)


def text_of(scopes, name):
    """The text that a hole wants; refused with NoValue, NoKind, NoSign."""
    value = value_of(scopes, name)
    if not isinstance(value, str):
        raise NoKind(name)
    return need_text(value)


def truth_of(scopes, name):
    """The truth that a choice wants; refused with NoValue, NoKind."""
    value = value_of(scopes, name)
    if not isinstance(value, bool):
        raise NoKind(name)
    return value


def rows_of(scopes, name):
    """The list of rows that a loop wants; refused with NoValue, NoKind."""
    value = value_of(scopes, name)
    if not isinstance(value, list) or len(value) > MOST_ROWS:
        raise NoKind(name)
    if not all([isinstance(row, dict) for row in value]):
        raise NoKind(name)
    return value
