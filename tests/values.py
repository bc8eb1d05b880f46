"""Values of every kind, for functions and errors that take any value."""

NESTED = (1, [2, {"a": (None, True)}, "b"], {(1, 2): [3]})

ANY_VALUES = [
    None, True, False, 0, 1, 2, -1, 10 ** 30, 10 ** 400, -10 ** 400,
    "", "a", "0 0", "2\n0 0", (), (1,), (None,), (True,), [], [1, 2], {}, {"a": 1},
    {0: (2, ()), 1: ((0, 0),)}, NESTED, [NESTED, NESTED], (NESTED,), ((),), ((), ()),
    ((((((((((1,),),),),),),),),),), ["x" * 3000], (0,) * 3000,
]


def is_int(value):
    """Whether the value is an integer, as the document means it."""
    return type(value) is int


def are_ints(value, many):
    return type(value) is tuple and len(value) == many and all(map(is_int, value))


def spoilt(value):
    """Values with one part changed: an integer up or down, left out, two against each other, other kinds."""
    yield from (None, True, False, str(value), [value], (value,), {"a": value}, {0: value})
    if is_int(value):
        yield from (value + 1, value - 1, -value, value + 10 ** 40)
    elif isinstance(value, str):
        yield from ("", value + "s", value.upper(), 0, list(value))
    elif isinstance(value, tuple):
        yield from spoilt_tuples(value)


def spoilt_tuples(items):
    yield from (list(items), (), items + items, items + (None,), items + (0,), (0,) + items, items[::-1],
                dict(enumerate(items)))
    for at, item in enumerate(items):
        yield items[:at] + items[at + 1:]
        yield items[:at] + (item,) + items[at:]
        for other in range(at):
            yield items[:other] + (item,) + items[other + 1:at] + (items[other],) + items[at + 1:]
        for changed in spoilt(item):
            yield items[:at] + (changed,) + items[at + 1:]
