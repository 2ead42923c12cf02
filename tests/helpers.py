"""What several tests need: wrong values of each kind, and the checks that name the errors for them."""

import itertools

from restlesshelf import errors

# Values that are no number, layout, word, program or anything else that the document names.
ODD = (None, True, False, "a", "", [], {}, [0, 1], {0: 1}, (None,), ("a",), ((), ()), ([0],), ({},))


def awaited(error, fields, values):
    return [(value, error, fields) for value in values]


def bad_habits():
    """Wrong habits with the place that the error names."""
    none = awaited("BadHabit", (None,), [value for value in ODD if value not in (((), ()), )])
    none += awaited("BadHabit", (None,), [(), 2, ((0,),), ((0, 1, 2, 3, 4, 5),) * 6, [(0, 1), (0, 1)], "ab"])
    first = awaited("BadHabit", (0,), [((), ()), (0, 1), ((0, 1, 2), (0, 1)), ((False, True), (0, 1)), (None, None)])
    first += awaited("BadHabit", (0,), [([0, 1], (0, 1)), ("01", (0, 1)), ((0, -1), (0, 1)), ((1, 2), (0, 0))])
    later = awaited("BadHabit", (1,), [((0, 1), (0, 0)), ((0, 1), (0, 1, 2)), ((0, 1), [0, 1]), ((0, 1), True)])
    later += awaited("BadHabit", (4,), [((0, 1, 2, 3, 4),) * 4 + ((0, 1, 2, 3, 5),)])
    return none + first + later


def bad_layouts():
    """Wrong layouts of two places."""
    return awaited("BadLayout", (), ODD + ((), 0, (0,), (0, 0), (0, 2), (-1, 0), (0, 1, 2), (False, True), (0, "1")))


def bad_places():
    """Values that are none of two places."""
    return awaited("BadPlace", (), ODD + (-1, 2, (), (0,)))


def bad_words():
    """Wrong words for two places."""
    return awaited("BadWord", (), ODD + (0, (0, 2), (-1,), (True,), (0, False), (0,) * 401, "01"))


def bad_names():
    """Values that are none of two names."""
    return awaited("BadNames", (), ODD + (-1, 2, (), (0,)))


def bad_numbers(low, high):
    return awaited("BadNumber", (), ODD + (low - 1, high + 1, (), (low,), 10 ** 30, -10 ** 30))


def bad_inputs():
    values = (0, (1000001,), (0, -1000001), (True,), (0, False), (0,) * 51, [1, 2], ((1,),), (10 ** 30,))
    return awaited("BadInputs", (), ODD + values)


def bad_instructions(count):
    """Values that are no instruction of any program of so many instructions for two places."""
    words = ("get", "set", "plus", "minus")
    accesses = [(word, value) for word in words for value in (-1, 2, None, True, "0", (0,), [0])]
    jumps = [(word, value) for word in ("zero", "go") for value in (-1, count + 1, None, False, "0", (0,))]
    puts = [("put", value) for value in (-1000001, 1000001, None, True, "1", (1,))]
    lengths = [("get",), ("get", 0, 0), ("say", 0), ("say", None), ("ask", 0), ("stop", 0), ("put",), ("zero",), ("go",)]
    kinds = [(), "say", ["say"], ["get", 0], None, True, 0, {}, (["say"],), (0,), (None, 0), ("SAY",), ("jump", 0), ("",)]
    return accesses + jumps + puts + lengths + kinds


def bad_stills():
    """Wrong still programs for two places."""
    none = awaited("BadProgram", (None,), [None, True, False, "say", "", [], {}, 0, (), [("say",)], (("say",),) * 201])
    first = awaited("BadProgram", (0,), [(wrong, ("say",)) for wrong in bad_instructions(2) + [("touch", 0)]])
    later = awaited("BadProgram", (1,), [(("say",), wrong, wrong) for wrong in bad_instructions(3) + [("touch", 1)]])
    return none + first + later


def bad_restlesses():
    """Wrong restless programs for two places."""
    touches = [("touch",), ("touch", 2), ("touch", -1), ("touch", None), ("touch", True), ("touch", 0, 0)]
    none = awaited("BadProgram", (None,), [None, True, "say", [], {}, 0, (), [("say",)], (("say",),) * 4001])
    first = awaited("BadProgram", (0,), [(wrong, ("say",)) for wrong in bad_instructions(2) + touches])
    later = awaited("BadProgram", (2,), [(("say",), ("touch", 0), wrong, wrong) for wrong in touches])
    return none + first + later


def bad_habit_rows():
    """Wrong tuples of habits for a stand of two layouts of two places."""
    still = ((0, 1), (0, 1))
    none = awaited("BadHabits", (None,), [None, True, "a", [], {}, 0, (), [still, still], (still,) * 4])
    first = awaited("BadHabits", (0,), [(wrong, still) for wrong, _, _ in bad_habits()] + [(0, 1), still])
    wider = ((0, 1, 2),) * 3
    later = awaited("BadHabits", (1,), [(still, wrong) for wrong, _, _ in bad_habits()] + [(still, wider)])
    later += awaited("BadHabits", (2,), [(still, still, None), (still, still, wider), (still, still, [(0, 1)] * 2)])
    return none + first + later


def bad_stands():
    """Wrong stands for two habits of two places."""
    none = awaited("BadStand", (None,), [None, True, "ab", [], {}, 0, (), ((0, 1),), ((0, 1),) * 3, [(0, 1), (0, 1)]])
    first = awaited("BadStand", (0,), [(wrong, wrong) for wrong, _, _ in bad_layouts()])
    later = awaited("BadStand", (1,), [((0, 1), wrong) for wrong, _, _ in bad_layouts()])
    return none + first + later


FIELD_NAMES = {
    "BadHabit": ("place",), "BadProgram": ("index",), "BadHabits": ("index",), "BadStand": ("index",),
    "BadLine": ("line", "word"), "TooMany": ("most",),
}


def assert_raises(case, name, fields, function, *values):
    """Asserts that a call raises just this error, with these fields."""
    with case.assertRaises(errors.ShelfError) as caught:
        function(*values)
    raised = caught.exception
    case.assertEqual(raised.__class__.__name__, name, values)
    told = tuple(getattr(raised, field) for field in FIELD_NAMES.get(name, ()))
    case.assertEqual(told, fields, values)
    for one, other in zip(told, fields):
        case.assertIs(one.__class__, other.__class__)


def assert_names_wrong_arguments(case, function, good, wrong):
    """Asserts which error each wrong argument has, alone and beside others: the leftmost one's.

    wrong has a list of (value, error, fields) for each argument; an empty one where any value is allowed.
    """
    function(*good)
    for at, rows in enumerate(wrong):
        for value, name, fields in rows:
            values = good[:at] + (value,) + good[at + 1:]
            assert_raises(case, name, fields, function, *values)
    for at, other in itertools.combinations(range(len(good)), 2):
        if wrong[at] and wrong[other]:
            value, name, fields = wrong[at][-1]
            values = list(good)
            values[at], values[other] = value, wrong[other][-1][0]
            assert_raises(case, name, fields, function, *values)
    all_wrong = [rows[0][0] if rows else worth for rows, worth in zip(wrong, good)]
    leftmost = [rows[0] for rows in wrong if rows][0]
    assert_raises(case, leftmost[1], leftmost[2], function, *all_wrong)


def all_layouts(places):
    return list(itertools.permutations(range(places)))


def random_habit(source, places):
    return tuple(tuple(source.sample(range(places), places)) for _ in range(places))


def random_layout(source, places):
    return tuple(source.sample(range(places), places))


def random_program(source, places, most):
    """A still program of 1 to most instructions, with many jumps."""
    count = source.randint(1, most)
    kinds = ("get", "set", "plus", "minus", "put", "say", "ask", "zero", "zero", "go", "stop")
    return tuple(random_instruction(source, source.choice(kinds), places, count) for _ in range(count))


def random_instruction(source, word, places, count):
    if word in ("get", "set", "plus", "minus"):
        return (word, source.randrange(places))
    if word in ("zero", "go"):
        return (word, source.randint(0, count))
    if word == "put":
        return (word, source.randint(-2, 2))
    return (word,)


def bad_lots():
    """Values that are no ascending tuple of at least one of two places."""
    return awaited("BadPlace", (), ODD + (0, (), (0, 0), (1, 0), (0, 2), (-1,), (True,), (0, 1, 1), (0, 1, 2)))


def bad_name_rows(most):
    """Values that are no tuple of at most so many of two names."""
    return awaited("BadNames", (), ODD + (0, (0, 2), (-1,), (True,), (0, False), (0,) * (most + 1)))


def random_restless(source, places, most):
    """A restless program of 1 to most instructions, with many jumps and touches."""
    program = random_program(source, places, most)
    return tuple(("touch", source.randrange(places)) if source.random() < 0.25 else row for row in program)


def said_alike(still, restless):
    """Whether a restless run says what a still one says, if the restless one went on for longer."""
    said, word = still
    if word == "stopped":
        return restless == still
    return restless[0][:len(said)] == said and restless[1] == "running"


def bad_rows_of_books(most):
    """Values that are no row of the unlike numbers 0, 1 and so on of 1 to most."""
    values = ((), 0, 3, (1,), (0, 0), (0, 2), (-1, 0), (1, 2), (False, True), (0, "1"), (0, 1, 1), tuple(range(most + 1)))
    return awaited("BadLayout", (), ODD + values)


def bad_starts():
    """Values that are no ascending tuple of at least one layout of two places."""
    one, other = (0, 1), (1, 0)
    rows = [(), 0, one, (other, one), (one, one), [one, other], (one, other, other), (one, None), (one, (0, 0)), (one, 0)]
    rows += [(one, [1, 0]), (one, (True, False)), ((False, True), other), (one, (0, 1, 2)), (one,) * 25, {0: one}]
    return awaited("BadLayouts", (), ODD + tuple(rows))
