"""Answers: what a query tells of a plain list, a store or a snapshot [153 to 157]."""

from math import lcm

from everygrain.asking import ask_told
from everygrain.errors import InvalidQuery
from everygrain.folds import beside, delta, mean, rate
from everygrain.queries import PlainAsk, Query
from everygrain.ratios import by, minus, plus, times
from everygrain.selections import chosen
from everygrain.series import grouped

_ZERO = (0, 1)
_PLACES = {"count": 0, "sum": 1, "least": 2, "greatest": 3}


def ask(source, query):
    """The rows of a query, given as a Query or a text: tuples of a label and a list of answers."""
    if isinstance(query, str):
        query = Query(query)
    if not isinstance(query, Query):
        raise InvalidQuery(query)
    low, high, step = query.windows()
    # Whichever series are meant, also if none is.
    ask_told(source.rules(), source.clock(), low, high, step)
    return _rows_of(query.asked(), source)


def _rows_of(asked, source):
    if isinstance(asked, PlainAsk):
        return _plain_rows(asked, source)
    one = dict(_rows_of(asked.one, source))
    other = dict(_rows_of(asked.other, source))
    labels = sorted([label for label in one if label in other])
    return [(label, _put_together(asked.sign, one[label], other[label])) for label in labels]


def _put_together(sign, answers, others):
    """The answers of a joined query for one label."""
    return [_answer_of_two(sign, one, other) for one, other in zip(answers, others)]


def _answer_of_two(sign, one, other):
    if one is None or other is None:
        return None
    if sign == "+":
        return plus(one, other)
    if sign == "-":
        return minus(one, other)
    if sign == "*":
        return times(one, other)
    return by(one, other)


def _plain_rows(asked, source):
    phrase = asked.phrase
    rows = []
    for label, group in _groups(phrase, source):
        folds = _folds_of_group(source, group, asked.windows)
        answers = [_answer(phrase.function, told_fold) for told_fold in folds]
        rows.append((label, _filled(phrase.fill, answers)))
    # Labels are unlike, so answers are never compared.
    return _best_rows(asked, sorted(rows))


def _groups(phrase, source):
    """The tuples of a label and the series of its row, in order."""
    series = chosen(phrase.selection, source.series())
    if phrase.key is not None:
        return [(word or "-", group) for word, group in grouped(series, phrase.key)]
    if len(series) == 0:
        return []
    return [("", series)]


def _folds_of_group(source, group, windows):
    low, high, step = windows
    folds = [None for _ in range(low, high, step)]
    for series in group:
        # The series stand in order, as the rows of points of a fold must.
        others = source.folds(series, low, high, step)
        folds = [beside(one, other) for one, other in zip(folds, others)]
    return folds


def _answer(function, told_fold):
    if function == "mean":
        return mean(told_fold)
    if function == "rate":
        return rate(told_fold)
    if told_fold is None and function in ("count", "sum"):
        return _ZERO
    if told_fold is None:
        return None
    return _number(function, told_fold), 1


def _number(function, told_fold):
    """The integer that a function tells of points."""
    if function == "delta":
        return delta(told_fold)
    if function == "first":
        return told_fold[4][1]
    if function == "last":
        return told_fold[5][1]
    return told_fold[_PLACES[function]]


def _filled(fill, answers):
    """A row's answers behind its fill."""
    if fill is None:
        return answers
    if fill == "zero":
        return [answer or _ZERO for answer in answers]
    filled = []
    before = None
    for answer in answers:
        before = answer or before
        filled.append(before)
    return filled


def _best_rows(asked, rows):
    """The rows that stay, of rows in order of their labels."""
    if asked.best is None:
        return rows
    sums = [_sum_of(answers) for label, answers in rows]
    shared = 1
    for _, d in sums:
        shared = lcm(shared, d)
    # Over one shared divisor the sums are in order as integers are.
    ranks = [n * (shared // d) for n, d in sums]
    if asked.best == "top":
        ranks = [-rank for rank in ranks]
    order = sorted(range(len(rows)), key=lambda at: ranks[at])
    return [rows[at] for at in order[:asked.most]]


def _sum_of(answers):
    total = _ZERO
    for answer in answers:
        total = plus(total, answer or _ZERO)
    return total


def told(rows):
    """A text for each row: its label, and then its answers with blanks between."""
    return [" ".join([label or "."] + [_answer_text(answer) for answer in answers]) for label, answers in rows]


def _answer_text(answer):
    if answer is None:
        return "-"
    n, d = answer
    if d == 1:
        return str(n)
    return f"{n}/{d}"
