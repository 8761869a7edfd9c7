"""Values that the tests share."""


class EqualToAll:
    """Says that it is equal to everything."""

    def __eq__(self, other):
        return True

    def __hash__(self):
        return 0


class Refusing:
    """Whoever looks into it fails."""

    def refuse(self, *rest):
        raise RuntimeError("this value must not be looked into")

    __eq__ = __hash__ = __bool__ = __len__ = __iter__ = __repr__ = __str__ = refuse
    __lt__ = __le__ = __gt__ = __ge__ = __getitem__ = __contains__ = __index__ = __int__ = refuse


def doubled(levels):
    """A tuple of so many levels: with 100 of them it has 2 ** 100 parts."""
    value = ()
    for _ in range(levels):
        value = (value, value)
    return value


def doubled_list(levels):
    value = []
    for _ in range(levels):
        value = [value, value]
    return value


def doubled_dict(levels):
    value = {}
    for _ in range(levels):
        value = {"a": value, "b": value}
    return value


# Pairs of a name and a value that is no integer and no object of the package.
# The names are for subTest: some of the values must not be written out.
STRANGE = [
    ("None", None),
    ("True", True),
    ("False", False),
    ("text", "5"),
    ("empty text", ""),
    ("bytes", b"5"),
    ("empty tuple", ()),
    ("tuple", (0,)),
    ("pair", (0, 5)),
    ("list", [0, 5]),
    ("empty list", []),
    ("dict", {0: 5}),
    ("set", {0, 5}),
    ("frozenset", frozenset([0])),
    ("range", range(3)),
    ("slice", slice(0, 1)),
    ("class", int),
    ("function", len),
    ("object", object()),
    ("NotImplemented", NotImplemented),
    ("Ellipsis", ...),
    ("equal to all", EqualToAll()),
    ("refusing", Refusing()),
    ("many parts", doubled(100)),
    ("many parts in lists", doubled_list(100)),
    ("many parts in dicts", doubled_dict(100)),
]

HUGE = 10 ** 999
