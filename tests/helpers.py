"""What several tests use: works to try, wrong things of every kind, and a second telling of ties."""

import itertools
import random

from leastblame.works import Work

WIRES = [("a", 2), ("b", 3), ("c", 4), ("d", 2)]

# One right tie of each sort, by the wires above.
TIES = [
    ("fixed", "a", 1),
    ("same", "b", "c"),
    ("turned", "c", "b"),
    ("least", "c", "b", "a"),
    ("most", "c", "b", "a"),
    ("sum", "b", "c", "a"),
    ("pick", "c", "d", "a", "b"),
    ("rows", ("b", "a"), ((0, 1), (2, 0))),
]


class Agreeable:
    """It says that it is like everything."""

    def __eq__(self, other):
        return True

    def __hash__(self):
        return 0


class Prickly:
    """Whoever asks it anything fails."""

    __hash__ = None

    def fail(self, *told):
        raise AssertionError("it was asked")

    __eq__ = __ne__ = __lt__ = __le__ = __gt__ = __ge__ = fail
    __len__ = __iter__ = __getitem__ = __contains__ = __bool__ = __int__ = __index__ = fail
    __str__ = fail


def deep(kind, many):
    thing = kind()
    for _ in range(many):
        thing = kind([thing])
    return thing


def odd_things():
    """Things of every kind, made anew at each call; none a name, lot, look, world or work."""
    ring = []
    ring.append(ring)
    return [
        None, True, False, -1, 4, 9, 10 ** 59, -(10 ** 59), 0.5, 2.0, float("nan"), 1j,
        "", "0", "1", "A", "zz z", "abcdefg", "a\n", "\t", b"", b"a",
        {}, {"a": 2}, {0: 0}, set(), {"a"}, frozenset([0]), range(2),
        [None], [True], [[]], [[[0]]], [()], ["a", "b"], ring,
        (None,), (True,), ((),), ([],), ("a",), (-1,), (0.0,), ((0,),),
        deep(list, 29), deep(tuple, 29),
        object(), Agreeable(), Prickly(), len, Work, iter([]), bytearray(b"a"),
    ]


def fields_of(error):
    """The fields of a refusal, by name."""
    return dict(vars(error))


class Refusing:
    """For a TestCase: what is refused, with the refusal's class and each of its fields."""

    def refused_so(self, error, fields, call, *handed, **named):
        with self.assertRaises(error) as caught:
            call(*handed, **named)
        self.assertIs(caught.exception.__class__, error)
        self.assertEqual(fields_of(caught.exception), fields)


def holds(tie, seen, manys):
    """Whether the tie holds, the wires' values and manys told by names: written apart from the package."""
    word, rest = tie[0], tie[1:]
    if word == "rows":
        return any(all(seen[name] == value for name, value in zip(rest[0], row)) for row in rest[1])
    out = seen[rest[0]]
    if word == "fixed":
        return out == rest[1]
    told = [seen[name] for name in rest[1:]]
    if word == "turned":
        return out + told[0] + 1 == manys[rest[1]]
    if word == "sum":
        left = sum(told)
        while left >= manys[rest[0]]:
            left -= manys[rest[0]]
        return out == left
    if word == "pick":
        return out == told[1 if told[0] == 0 else 2]
    return out == {"same": lambda: told[0], "least": lambda: sorted(told)[0], "most": lambda: sorted(told)[1]}[word]()


def worlds_slowly(wires):
    """All worlds of the wires, sorted."""
    return sorted(list(world) for world in itertools.product(*(range(many) for name, many in wires)))


def sound_slowly(wires, parts, world):
    """The lot of the parts that are sound in the world."""
    seen = {name: value for (name, many), value in zip(wires, world)}
    return tuple(n for n, part in enumerate(parts) if all(holds(tie, seen, dict(wires)) for tie in part[1]))


def some_tie(chance, wires):
    """A right tie by the wires."""
    names = [name for name, many in wires]
    word = chance.choice(["fixed", "same", "turned", "least", "most", "sum", "pick", "rows"])
    if word == "fixed":
        return ("fixed", chance.choice(names), chance.randrange(4))
    if word == "rows":
        columns = tuple(chance.sample(names, chance.randint(1, len(names))))
        rows = {tuple(chance.randrange(4) for _ in columns) for _ in range(chance.randint(0, 9))}
        return ("rows", columns, tuple(sorted(rows)))
    many = {"same": 2, "turned": 2, "pick": 4}.get(word, 3)
    return (word, *(chance.choice(names) for _ in range(many)))


def some_work(chance):
    """Wires and parts of a work."""
    names = chance.sample(["a", "b", "c", "out", "in", "xyzxyz", "p", "q"], chance.randint(1, 5))
    wires = [(name, chance.randint(2, 4)) for name in names]
    called = chance.sample(["p", "q", "r", "part", "wire", "rows", "fixed"], chance.randint(0, 7))
    parts = [(name, [some_tie(chance, wires) for _ in range(chance.randint(1, 3))]) for name in called]
    return wires, parts


def some_works(many, seed=1):
    """So many works, as wires and parts; the same ones at each call."""
    chance = random.Random(seed)
    return [some_work(chance) for _ in range(many)]


def some_circuit(chance):
    """Wires and parts of a work in which each part makes one wire of those ahead of it: most lots can be sound."""
    names = list("abcdefgh")[:chance.randint(4, 8)]
    wires = [(name, chance.choice([2, 2, 3]) if len(names) < 7 else 2) for name in names]
    inputs = chance.randint(max(1, len(names) - 7), 3)
    parts = []
    for number in range(inputs, len(names)):
        word = chance.choice(["same", "turned", "least", "most", "sum", "pick"])
        many = {"same": 1, "turned": 1, "pick": 3}.get(word, 2)
        tie = (word, names[number], *(chance.choice(names[:number]) for _ in range(many)))
        parts.append(("p" + names[number], [tie]))
    chance.shuffle(parts)
    return wires, parts


def some_looks(chance, wires, most=6):
    """Right looks at the wires."""
    looks = []
    for _ in range(chance.randint(0, most)):
        name, many = chance.choice(wires)
        looks.append((chance.choice(["is", "is", "isnt"]), name, chance.randrange(many)))
    return looks


def some_cases(many, seed=1):
    """So many works with looks, as (wires, parts, looks); the same ones at each call."""
    chance = random.Random(seed)
    cases = []
    for number in range(many):
        wires, parts = some_work(chance) if number % 3 == 0 else some_circuit(chance)
        cases.append((wires, parts, some_looks(chance, wires)))
    return cases
