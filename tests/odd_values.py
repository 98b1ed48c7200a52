"""Values of every kind that may be handed in where something else is asked for."""

from pileups.errors import NotPossible, Ring
from pileups.plans import Plan


def odd_values():
    """Return values of all kinds that are neither integers nor strings."""
    return [
        None, True, False, [], (), {}, [0], (0,), {0: 0}, {"a": 0}, ["a"], ("a",), [["a"]], [None],
        [{}], {"a": [{"b": ()}]}, Plan(["a"]), [Plan(["a"])], Ring(["a"]), NotPossible(),
    ]


def odd_integers():
    """Return integers of all sizes and signs."""
    return [0, 1, -1, 2, 7, 60, 10 ** 30 - 1, 10 ** 30, -(10 ** 30), 10 ** 80]


def odd_texts():
    """Return strings that are no names, among them some that look like other values."""
    return [
        "", " ", "A", "aB", "a1", "1", "0", "-1", "a b", " a", "a ", "a\n", "\na", "abcdefghi", "a" * 200,
        "a_b", "a-b", "None", "True", "[]", "\u00e4", "\u0430", "\u00df", "\u00b2", "a\u00e4",
    ]


def no_names():
    """Return values that are no names."""
    return odd_values() + odd_integers() + odd_texts()


def no_integers():
    """Return values that are no integers."""
    return odd_values() + odd_texts() + ["a", "events a"]


def no_counts():
    """Return values that are no integers from 0 on."""
    return no_integers() + [-1, -2, -(10 ** 30)]
