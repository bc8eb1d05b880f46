"""Values of every kind, for functions and errors that take any value."""

NESTED = (1, [2, {"a": (None, True)}, "b"], {(1, 2): [3]})

ANY_VALUES = [
    None, True, False, 0, 1, 2, -1, 10 ** 30, 10 ** 400, -10 ** 400,
    "", "a", "0 0", "2\n0 0", (), (1,), (None,), (True,), [], [1, 2], {}, {"a": 1},
    {0: (2, ()), 1: ((0, 0),)}, NESTED, [NESTED, NESTED], (NESTED,), ((),), ((), ()),
    ((((((((((1,),),),),),),),),),), ["x" * 3000], (0,) * 3000,
]
