"""Of which kind a value is: what every module asks of what it is handed."""


def is_whole(value):
    # Python counts True and False among its whole numbers; the program does not.
    return isinstance(value, int) and not isinstance(value, bool)


def is_listed(value):
    return isinstance(value, (list, tuple))


def is_pair(value):
    return is_listed(value) and len(value) == 2
