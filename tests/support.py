"""What several tests use."""

from everygrain import errors


def check_examples(case, text):
    """Run an example of the document line by line; each answer must be told word for word."""
    names = {}
    names.update(vars(errors))
    lines = [line for line in text.strip("\n").split("\n") if line]
    for at, line in enumerate(lines):
        if not line.startswith(">>> "):
            continue
        wanted = []
        if at + 1 < len(lines) and not lines[at + 1].startswith(">>> "):
            wanted = [lines[at + 1]]
        answers = answers_of(case, line[4:], names)
        if wanted and wanted[0].startswith("raises ") and "(" not in wanted[0]:
            # What the error has is not told where it has no plain text.
            answers = [answer.partition("(")[0] for answer in answers]
        case.assertEqual(answers, wanted, line)


def answers_of(case, line, names):
    try:
        code = compile(line, "example", "eval")
    except SyntaxError:
        exec(line, names)
        return []
    try:
        told = eval(code, names)
    except errors.GrainError as error:
        parts = [repr(part) for part in vars(error).values()]
        return ["raises " + type(error).__name__ + "(" + ", ".join(parts) + ")"]
    return [] if told is None else [repr(told)]


def check_error(case, wanted, call, *places, **names):
    """The call raises just this error: of this very class, with these attributes."""
    with case.assertRaises(errors.GrainError) as caught:
        call(*places, **names)
    case.assertIs(type(caught.exception), type(wanted))
    case.assertEqual(list(vars(caught.exception)), list(vars(wanted)))
    for name, value in vars(wanted).items():
        told = getattr(caught.exception, name)
        case.assertIs(type(told), type(value))
        case.assertEqual(told, value)


def check_given(case, kind, call, value):
    """The call with this one value raises an error that has this very value."""
    with case.assertRaises(errors.GrainError) as caught:
        call(value)
    case.assertIs(type(caught.exception), kind)
    case.assertIs(caught.exception.given, value)


# Values of all other kinds, for wherever one kind is asked for.
ODD_VALUES = [None, True, False, 1.0, 0.0, -1.5, "", "a", "1", b"", b"a", [], (), {}, [1.0], (True,), [None], ["a"],
              {"a": 1}, range(2), object(), set(), frozenset((1,)), Exception, len, [[]], ((),), [[1]], {1: 2}]


def odd_values(*allowed):
    """The values of other kinds, but for those that are of one of these classes themselves."""
    return [value for value in ODD_VALUES if type(value) not in allowed]


class Draw:
    """Numbers that look drawn, the same on each run."""

    def __init__(self, seed):
        self.state = seed

    def below(self, many):
        self.state = (self.state * 6364136223846793005 + 1442695040888963407) % 2 ** 64
        return (self.state >> 33) % many

    def within(self, low, high):
        return low + self.below(high - low + 1)

    def one_of(self, items):
        return items[self.below(len(items))]
