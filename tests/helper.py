"""What several tests need: a book, many values of all kinds, and a way to see errors."""

from ordersopen.functions import Book, Function

BOOK = Book(
    Function("f", 1, reads=("x",), stores=("y",)),
    Function("g", 2),
    Function("h", 3, stores=("x", "y")),
    Function("k"),
)


def told(call, *given, **named):
    """The name and the fields of the error that a call raises; None if it raises none."""
    try:
        call(*given, **named)
    except Exception as error:
        return type(error).__name__, dict(vars(error))
    return None


def nested(kind, depth):
    value = kind()
    for _ in range(depth - 1):
        value = kind([value])
    return value


def any_values():
    """New values of all kinds that [2] calls "any value", the largest ones too."""
    return [
        None, True, False, 0, 1, 2, -1, 6, 999999, 1000000, 10 ** 39, -(10 ** 39),
        "", " ", "\n", "f", "x", "f\n", "F", "1", "()", "(", "f" * 8, "f" * 9, "~" * 2000,
        [], (), [[]], ((),), ([],), [()], [0], (0,), (1,), (2,), (-1,), (True,), (False,), (None,), ("0",), ((0,),),
        (0, 0), (0, True), [0, 0], [1], [True], ["f"], ("f",), [("f",)], (["f"],), ("f", "g"), ["f", "g"],
        ["read", "x"], ("read", "x"), ("read", "X"), ("read",), ("value", "f", ()), (None, None), (1, (1, [1])),
        nested(list, 80), nested(tuple, 80), [0] * 3000, (0,) * 3000, ["x"] * 3000,
    ]
