"""The kinds of values that the other files ask for."""


def as_tuples(value):
    """The value with a tuple in the place of each list, at any depth."""
    if isinstance(value, (list, tuple)):
        return tuple([as_tuples(item) for item in value])
    return value


def is_number(thing):
    """Whether thing is a number; True and False are none."""
    return isinstance(thing, int) and not isinstance(thing, bool)


def is_name(thing):
    """Whether thing is a NAME."""
    if not isinstance(thing, str) or not 1 <= len(thing) <= 8:
        return False
    return all(["a" <= sign <= "z" for sign in thing])


def is_pair(thing):
    """Whether thing is a tuple of two."""
    return isinstance(thing, tuple) and len(thing) == 2


def is_letter(thing):
    """Whether thing is a LETTER of some group."""
    return is_pair(thing) and is_name(thing[0]) and is_number(thing[1]) and thing[1] >= 1


def is_name_set(thing):
    """Whether thing is a set of one or more NAMES."""
    if not isinstance(thing, tuple) or not thing:
        return False
    if not all([is_name(item) for item in thing]):
        return False
    return rises(thing)


def rises(values):
    """Whether each of these values is below the next one."""
    return all([low < high for low, high in zip(values, values[1:])])


def as_set(values):
    """The set of these values: ascending, each once."""
    return tuple(sorted(set(values)))
