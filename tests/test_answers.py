"""[153] to [158]: what queries tell."""

import unittest
from fractions import Fraction

from everygrain.answers import ask, told
from everygrain.errors import Gone, InvalidQuery
from everygrain.grains import Rules
from everygrain.plain import Plain
from everygrain.queries import Query
from everygrain.ratios import is_fraction
from everygrain.selections import Selection, has
from everygrain.series import Series, read_series
from everygrain.views import View
from tests.support import Draw, check_error, check_examples, check_given, odd_values
from tests.test_queries import FUNCTIONS

FOR_EVER = [(1, None)]
ROWS = [(1, 8), (4, 20), (8, 40)]
TEXTS = ["load{host=a,zone=x}", "load{host=b,zone=x}", "load{host=c}", "load{}", "heat{host=a}", "heat{zone=y}"]
ALL = [read_series(text) for text in TEXTS]


def plain_of(rows, points, clock=0):
    """A plain list with these points, told by the texts of series, at a clock."""
    plain = Plain(Rules(rows))
    for text, row in points.items():
        for time, value in row:
            plain.do(("put", read_series(text), time, value))
    plain.do(("clock", clock))
    return plain


def texts(source, query):
    """What a query tells, as texts, of a Query and of its text alike."""
    rows = ask(source, Query(query))
    assert rows == ask(source, query)
    return told(rows)


class ExamplesTest(unittest.TestCase):
    def test_examples_of_the_interface(self):
        check_examples(self, r"""
>>> from everygrain.answers import ask, told
>>> from everygrain.grains import Rules
>>> from everygrain.plain import Plain
>>> from everygrain.queries import Query
>>> from everygrain.series import Series
>>> one, two, three = Series("load", {"host": "a"}), Series("load", {"host": "b"}), Series("load")
>>> plain = Plain(Rules([(1, None)]))
>>> plain.do(("put", one, 1, 6))
>>> plain.do(("put", one, 3, 1))
>>> plain.do(("put", two, 3, 4))
>>> plain.do(("put", three, 9, 2))
>>> query = Query("mean  of name=load&host=* from 0 to 12 every 4 by host ")
>>> [query.text(), query.windows()]
['mean of name=load & host=* from 0 to 12 every 4 by host', (0, 12, 4)]
>>> ask(plain, query)
[('a', [(7, 2), None, None]), ('b', [(4, 1), None, None])]
>>> told(ask(plain, "sum of all from 0 to 12 every 4 by host"))
['- 0 0 2', 'a 7 0 0', 'b 4 0 0']
>>> told(ask(plain, "sum of all from 0 to 12 every 4 by host top 2"))
['a 7 0 0', 'b 4 0 0']
>>> told(ask(plain, "(last of all from 0 to 12 every 4 fill before) / (count of all from 0 to 12 every 4)"))
['. 4/3 - 2']
>>> told(ask(plain, "delta of host=a from 0 to 4 every 4 by zone"))
['- -5']
>>> ask(plain, "sum of all from 0 to 6 every 4")
raises InvalidQuery('sum of all from 0 to 6 every 4')
""")


class FunctionsTest(unittest.TestCase):
    def test_each_function_with_points_and_without(self):
        plain = plain_of(FOR_EVER, {"load{}": [(0, 5), (1, -2), (3, 4), (9, 7)]})
        for function, wanted in {
                "count": ". 3 0 1", "sum": ". 7 0 7", "least": ". -2 - 7", "greatest": ". 5 - 7", "first": ". 5 - 7",
                "last": ". 4 - 7", "mean": ". 7/3 - 7", "delta": ". -1 - 0", "rate": ". -1/3 - -"}.items():
            self.assertEqual(texts(plain, f"{function} of all from 0 to 12 every 4"), [wanted])

    def test_groups_of_several_series_with_points_at_the_same_times(self):
        plain = plain_of(FOR_EVER, {"a{}": [(1, 5), (3, 8)], "b{}": [(1, 6), (3, 9)], "c{}": [(2, 4), (3, 7)]})
        # Of equal times the first point is that of the first series, and the last one that of the last.
        for function, wanted in {"count": 6, "sum": 39, "least": 4, "greatest": 9, "first": 5, "last": 7, "mean": "13/2",
                                 "delta": 2, "rate": 1}.items():
            self.assertEqual(texts(plain, f"{function} of all from 0 to 4 every 4"), [f". {wanted}"])
        self.assertEqual(texts(plain, "first of !name=a from 0 to 4 every 4"), [". 6"])
        self.assertEqual(texts(plain, "last of !name=c from 0 to 4 every 4"), [". 9"])
        self.assertEqual(texts(plain, "rate of all from 3 to 4 every 1"), [". -"])
        self.assertEqual(texts(plain, "delta of all from 3 to 4 every 1"), [". -1"])

    def test_windows_have_their_low_and_not_their_end(self):
        plain = plain_of(FOR_EVER, {"a{}": [(3, 1), (4, 2), (7, 4), (8, 8), (12, 16)]})
        self.assertEqual(texts(plain, "sum of all from 4 to 12 every 4"), [". 6 8"])
        self.assertEqual(texts(plain, "sum of all from 3 to 13 every 5"), [". 7 24"])

    def test_answers_are_fractions(self):
        plain = plain_of(FOR_EVER, {"a{}": [(0, 2), (2, 4)]})
        for function in FUNCTIONS:
            [(label, answers)] = ask(plain, f"{function} of all from 0 to 4 every 4")
            self.assertEqual((label, len(answers)), ("", 1))
            self.assertTrue(is_fraction(answers[0]), function)
        rows = ask(plain, "sum of all from 0 to 4 every 4 by name")
        self.assertEqual((type(rows), type(rows[0]), type(rows[0][1])), (list, tuple, list))


class GroupsTest(unittest.TestCase):
    PLAIN = plain_of(FOR_EVER, {text: [(at, 2 ** at)] for at, text in enumerate(TEXTS)})

    def test_by_a_key_that_some_all_and_no_series_have(self):
        self.assertEqual(texts(self.PLAIN, "sum of all from 0 to 6 every 6 by host"), ["- 40", "a 17", "b 2", "c 4"])
        self.assertEqual(texts(self.PLAIN, "sum of zone=x from 0 to 6 every 6 by host"), ["a 1", "b 2"])
        self.assertEqual(texts(self.PLAIN, "sum of all from 0 to 6 every 6 by rack"), ["- 63"])
        self.assertEqual(texts(self.PLAIN, "sum of all from 0 to 6 every 6 by name"), ["heat 48", "load 15"])
        self.assertEqual(texts(self.PLAIN, "sum of all from 0 to 6 every 6"), [". 63"])

    def test_series_that_are_meant_but_have_no_points_in_the_windows(self):
        self.assertEqual(texts(self.PLAIN, "count of all from 2 to 4 every 1 by host"), ["- 0 1", "a 0 0", "b 0 0", "c 1 0"])
        self.assertEqual(texts(self.PLAIN, "mean of all from 50 to 52 every 1 by name"), ["heat - -", "load - -"])
        self.assertEqual(texts(self.PLAIN, "mean of all from 50 to 52 every 1"), [". - -"])

    def test_no_series_is_meant(self):
        for ending in ("", " by host", " by name", " fill zero", " by host fill before top 3"):
            self.assertEqual(texts(self.PLAIN, "sum of name=none from 0 to 6 every 6" + ending), [])
            self.assertEqual(texts(Plain(Rules(FOR_EVER)), "sum of all from 0 to 6 every 6" + ending), [])

    def test_a_series_without_points_is_not_there(self):
        plain = plain_of(FOR_EVER, {"a{}": [(1, 1)], "b{}": [(1, 1)]})
        plain.do(("take", Series("b"), 0, 5))
        self.assertEqual(texts(plain, "sum of all from 0 to 6 every 6 by name"), ["a 1"])

    def test_low_is_high(self):
        self.assertEqual(texts(self.PLAIN, "sum of all from 6 to 6 every 6 by host"), ["-", "a", "b", "c"])
        self.assertEqual(texts(self.PLAIN, "sum of all from 0 to 0 every 1"), ["."])
        self.assertEqual(ask(self.PLAIN, "sum of all from 6 to 6 every 6 by zone fill before bottom 2"), [("-", []), ("x", [])])
        self.assertEqual(texts(self.PLAIN, "sum of !all from 6 to 6 every 6"), [])


class FillTest(unittest.TestCase):
    PLAIN = plain_of(FOR_EVER, {"a{}": [(2, 5), (4, 0), (7, -3)], "b{}": [(0, 1)], "c{}": [(9, 1)]})

    def test_both_fills(self):
        for ending, wanted in {
                "": ["a - - 5 - 0 - - -3 -", "b 1 - - - - - - - -", "c - - - - - - - - -"],
                " fill zero": ["a 0 0 5 0 0 0 0 -3 0", "b 1 0 0 0 0 0 0 0 0", "c 0 0 0 0 0 0 0 0 0"],
                " fill before": ["a - - 5 5 0 0 0 -3 -3", "b 1 1 1 1 1 1 1 1 1", "c - - - - - - - - -"]}.items():
            self.assertEqual(texts(self.PLAIN, "last of all from 0 to 9 every 1 by name" + ending), wanted)
        self.assertEqual(texts(self.PLAIN, "sum of name=c from 0 to 4 every 2 fill before"), [". 0 0"])

    def test_top_and_bottom_behind_a_fill(self):
        # The sums of a, b and c are 2, 1 and 0; behind `fill before` they are 4, 9 and 0.
        for ending, wanted in {" top 1": "a", " fill zero top 1": "a", " fill before top 1": "b", " fill before top 2": "b a",
                               " bottom 2": "c b", " fill before bottom 2": "c a", " fill before bottom 3": "c a b"}.items():
            rows = ask(self.PLAIN, "last of all from 0 to 9 every 1 by name" + ending)
            self.assertEqual(" ".join(label for label, _ in rows), wanted)


class BestTest(unittest.TestCase):
    POINTS = {"load{host=a}": [(0, 5), (1, 1)], "load{host=b}": [(0, 3), (1, 3)], "load{host=c}": [(0, -9)],
              "load{host=d}": [(1, 6)], "load{}": [(0, 7), (1, 0)], "load{host=e}": [(5, 1)]}

    def labels(self, ending, function="sum"):
        rows = ask(plain_of(FOR_EVER, self.POINTS), f"{function} of all from 0 to 2 every 1 by host" + ending)
        return "".join(label for label, _ in rows)

    def test_more_fewer_and_just_as_many_rows(self):
        self.assertEqual(self.labels(""), "-abcde")
        for many in range(1, 9):
            self.assertEqual(self.labels(f" top {many}"), "-abdec"[:many])
            self.assertEqual(self.labels(f" bottom {many}"), "ceabd-"[:many])
        self.assertEqual(self.labels(" top 999999999999"), "-abdec")

    def test_none_counts_as_0(self):
        # The sums of -, a, b, c, d and e are 7, 6, 6, -9, 6 and, of two None, 0.
        self.assertEqual(self.labels(" top 6", "greatest"), "-abdec")
        self.assertEqual(self.labels(" bottom 6", "greatest"), "ceabd-")
        self.assertEqual(self.labels(" bottom 2", "rate"), "-a")

    def test_sums_of_fractions(self):
        plain = plain_of(FOR_EVER, {"a{}": [(0, 1), (1, 0), (2, 0)], "b{}": [(0, 1), (2, 0)], "c{}": [(0, 0), (1, 1), (3, 1)],
                                    "d{}": [(0, -1), (3, 0)]})
        # The means are 1/3, 1/2, 1/2 and -1/2 in the first window; that of c is 1 in the second one.
        rows = ask(plain, "mean of all from 0 to 6 every 3 by name top 4")
        self.assertEqual(told(rows), ["c 1/2 1", "b 1/2 -", "a 1/3 -", "d -1 0"])
        rows = ask(plain, "mean of all from 0 to 3 every 3 by name top 4")
        self.assertEqual([label for label, _ in rows], ["b", "c", "a", "d"])
        rows = ask(plain, "mean of all from 0 to 3 every 3 by name bottom 4")
        self.assertEqual([label for label, _ in rows], ["d", "a", "b", "c"])

    def test_the_first_rows_of_longer_ones(self):
        for function in FUNCTIONS:
            for word in ("top", "bottom"):
                rows = ask(plain_of(FOR_EVER, self.POINTS), f"{function} of all from 0 to 2 every 1 by host {word} 6")
                for many in range(1, 6):
                    query = f"{function} of all from 0 to 2 every 1 by host {word} {many}"
                    self.assertEqual(ask(plain_of(FOR_EVER, self.POINTS), query), rows[:many])

    def test_without_by(self):
        self.assertEqual(texts(plain_of(FOR_EVER, self.POINTS), "sum of all from 0 to 2 every 1 top 1"), [". 6 10"])


class JoinedTest(unittest.TestCase):
    PLAIN = plain_of(FOR_EVER, {"a{k=x}": [(0, 6), (1, 4), (4, 9)], "b{k=y}": [(0, 3), (2, 5)], "b{k=z}": [(0, 1), (1, 0)],
                                "c{}": [(0, 2), (1, 0), (2, 0)]})

    def check(self, query, *wanted):
        self.assertEqual(texts(self.PLAIN, query), list(wanted))

    def test_each_operator(self):
        for sign, wanted in {"+": ". 8 4 -", "-": ". 4 4 -", "*": ". 12 0 -", "/": ". 3 - -"}.items():
            self.check(f"(last of name=a from 0 to 3 every 1) {sign} (last of name=c from 0 to 3 every 1)", wanted)
        for sign, wanted in {"+": ". 8 4 0", "-": ". 4 4 0", "*": ". 12 0 0", "/": ". 3 - -"}.items():
            self.check(f"(sum of name=a from 0 to 3 every 1) {sign} (sum of name=c from 0 to 3 every 1)", wanted)

    def test_none_on_either_side(self):
        for sign in "+-*/":
            self.check(f"(last of name=a from 2 to 3 every 1) {sign} (last of name=c from 2 to 3 every 1)", ". -")
            self.check(f"(last of name=c from 2 to 3 every 1) {sign} (last of name=a from 2 to 3 every 1)", ". -")
            self.check(f"(last of all from 7 to 8 every 1) {sign} (last of all from 7 to 8 every 1)", ". -")

    def test_rows_that_only_one_query_tells(self):
        self.check("(sum of k=* from 0 to 2 every 1 by k) + (sum of !name=a from 0 to 2 every 1 by k)", "y 6 0", "z 2 0")
        self.check("(sum of all from 0 to 2 every 1 by k) - (sum of name=c from 0 to 2 every 1 by rack)", "- 0 0")
        self.check("(sum of all from 0 to 2 every 1 by k) + (sum of all from 0 to 2 every 1)")
        self.check("(sum of all from 0 to 2 every 1) + (sum of name=z from 0 to 2 every 1)")
        # A word is the same label whatever its key is.
        plain = plain_of(FOR_EVER, {"a{k=x}": [(0, 6)], "x{k=y}": [(0, 4)]})
        query = "(sum of all from 0 to 1 every 1 by k) * (sum of all from 0 to 1 every 1 by name)"
        self.assertEqual(texts(plain, query), ["x 24"])

    def test_rows_in_order_of_labels(self):
        one, other = "sum of all from 0 to 1 every 1 by name", "count of all from 0 to 1 every 1 by name"
        self.check(one + " bottom 3", "c 2", "b 4", "a 6")
        self.check(f"({one} bottom 3) / ({other} top 3)", "a 6", "b 2", "c 2")
        self.check(f"({one} bottom 2) / ({other} top 2)", "b 2")
        self.check(f"({one} bottom 1) / ({other} top 1)")

    def test_low_is_high(self):
        self.check("(sum of all from 3 to 3 every 1 by name) + (sum of !name=a from 3 to 3 every 1 by name)", "b", "c")

    def test_joined_twice(self):
        one, other = "(sum of name=a from 0 to 3 every 1)", "(sum of name=b from 0 to 3 every 1)"
        self.check(f"({one} - {other}) - {one}", ". -4 0 -5")
        self.check(f"{one} - ({other} - {one})", ". 8 8 -5")
        self.check(f"({one} / {other}) * ({other} / {one})", ". 1 - -")
        self.check(f"(({one} / {other}) + ({one} * {one})) / {one}", ". 25/4 - -")

    def test_negative_divisors(self):
        self.check("(count of name=a from 0 to 1 every 1) / ((sum of all from 0 to 1 every 1) - "
                   "((sum of all from 0 to 1 every 1) + (sum of name=c from 0 to 1 every 1)))", ". -1/2")


class AskTest(unittest.TestCase):
    PLAIN = plain_of(ROWS, {"load{}": [(2, 1), (9, 2), (20, 3), (31, 4)]}, 30)

    def test_a_query_and_its_text(self):
        text = "sum of all from 8 to 32 every 8"
        self.assertEqual(ask(self.PLAIN, text), ask(self.PLAIN, Query(text)))
        self.assertEqual(ask(source=self.PLAIN, query=text), [("", [(2, 1), (3, 1), (4, 1)])])

    def test_other_values(self):
        for value in odd_values(str) + ["", "sum", "sum of all every 8", View("sum of all every 8"), Selection("all"),
                                        ["sum of all from 8 to 32 every 8"], b"sum of all from 8 to 32 every 8"]:
            check_given(self, InvalidQuery, lambda query: ask(self.PLAIN, query), value)

    def test_the_first_window_that_is_not_told(self):
        # The edges are 20, 8 and 0.
        check = [("sum of all from 0 to 8 every 4", Gone(0, 1)), ("sum of all from 4 to 8 every 4", Gone(4, 1)),
                 ("sum of all from 2 to 8 every 2", Gone(2, 0)), ("sum of all from 18 to 24 every 2", Gone(18, 0)),
                 ("sum of all from 8 to 20 every 2", Gone(8, 0)), ("sum of all from 0 to 12 every 12", Gone(0, 1))]
        for query, error in check:
            for selection in ("all", "name=none", "!name=load"):
                check_error(self, error, ask, self.PLAIN, query.replace("all", selection))
                text = query.replace("all", selection)
                check_error(self, error, ask, self.PLAIN, f"({text}) + ({query})")
        for query in ("sum of all from 0 to 8 every 8", "sum of all from 8 to 20 every 4", "sum of all from 20 to 23 every 1",
                      "sum of all from 3 to 3 every 1", "(sum of all from 3 to 3 every 3) / (sum of all from 3 to 3 every 3)"):
            ask(self.PLAIN, query)

    def test_gone_from_a_clock_on(self):
        plain = plain_of(ROWS, {"load{}": [(2, 1)]}, 47)
        self.assertEqual(texts(plain, "sum of all from 0 to 8 every 8"), [". 1"])
        plain.do(("clock", 48))
        check_error(self, Gone(0, 2), ask, plain, "sum of all from 0 to 8 every 8")

    def test_no_query_is_told_ahead_of_gone(self):
        for text in ("sum of all from 2 to 7 every 2", "(sum of all from 2 to 4 every 2) + (sum of all from 2 to 6 every 2)"):
            check_given(self, InvalidQuery, lambda query: ask(self.PLAIN, query), text)

    def test_asking_changes_nothing(self):
        plain = plain_of(ROWS, {"load{}": [(2, 1), (31, 4)]}, 30)
        for _ in range(2):
            rows = ask(plain, "sum of all from 24 to 32 every 8 by name")
            self.assertEqual(rows, [("load", [(4, 1)])])
            rows[0][1].clear()
            rows.clear()
        self.assertEqual((plain.done(), plain.clock(), plain.points(Series("load"), 20, 40)), (3, 30, [(31, 4)]))

    def test_400_windows(self):
        plain = plain_of(FOR_EVER, {text: [(time, time) for time in range(0, 400, 7)] for text in TEXTS})
        rows = ask(plain, "greatest of all from 0 to 400 every 1 by host fill before top 3")
        self.assertEqual([(label, len(answers), answers[-1]) for label, answers in rows],
                         [(label, 400, (399, 1)) for label in "-ab"])


class ToldTest(unittest.TestCase):
    def test_rows(self):
        self.assertEqual(told([]), [])
        self.assertEqual(told([("", []), ("a", []), ("-", [])]), [".", "a", "-"])
        rows = [("", [None, (0, 1), (7, 1), (-7, 1)]), ("a-b", [(1, 2), (-1, 2), (22, 7), None]), ("-", [(-999999999999, 400)])]
        self.assertEqual(told(rows), [". - 0 7 -7", "a-b 1/2 -1/2 22/7 -", "- -999999999999/400"])
        self.assertEqual(told(rows=((("9", ((3, 1),)),))), ["9 3"])


def plain_answer(function, points):
    """FUNCTION of points, tuples (time, place of the series, value), reckoned anew."""
    values = [value for _, _, value in points]
    if function in ("count", "sum"):
        return Fraction(len(values) if function == "count" else sum(values))
    if not points:
        return None
    first = min(points, key=lambda point: (point[0], point[1]))
    last = max(points, key=lambda point: (point[0], point[1]))
    if function == "mean":
        return Fraction(sum(values), len(values))
    if function == "rate":
        return Fraction(last[2] - first[2], last[0] - first[0]) if last[0] > first[0] else None
    return Fraction({"least": min(values), "greatest": max(values), "first": first[2], "last": last[2],
                     "delta": last[2] - first[2]}[function])


class Drawn:
    """A plain query in its items, with what it tells of points, reckoned anew."""

    def __init__(self, draw, windows):
        self.windows = windows
        self.function = draw.one_of(FUNCTIONS)
        self.selection = draw.one_of(["all", "host=*", "name=load", "!zone=x", "zone=x | host=c", "!all", "name=heat&host=a"])
        self.key = draw.one_of([None, "host", "zone", "name", "rack"])
        self.fill = draw.one_of([None, None, "zero", "before"])
        self.best = draw.one_of([None, None, "top", "bottom"])
        self.most = draw.within(1, 4)

    def text(self):
        low, high, step = self.windows
        text = f"{self.function} of {self.selection} from {low} to {high} every {step}"
        text += f" by {self.key}" if self.key else ""
        text += f" fill {self.fill}" if self.fill else ""
        return text + (f" {self.best} {self.most}" if self.best else "")

    def rows(self, points, there):
        """The rows of a dict of points by texts of series, of which some are there."""
        groups = {}
        for text in there:
            series = read_series(text)
            if has(Selection(self.selection), series):
                words = dict(series.tags)
                words["name"] = series.name
                label = words.get(self.key, "-") if self.key else ""
                groups.setdefault(label, []).append(text)
        rows = sorted((label, self.answers([points.get(text, {}) for text in sorted(group)]))
                      for label, group in groups.items())
        if self.best:
            way = -1 if self.best == "top" else 1
            rows = sorted(rows, key=lambda row: way * sum(answer or 0 for answer in row[1]))[:self.most]
        return rows

    def answers(self, group):
        low, high, step = self.windows
        answers = []
        for start in range(low, high, step):
            inside = [(time, at, row[time]) for at, row in enumerate(group) for time in row if start <= time < start + step]
            answer = plain_answer(self.function, inside)
            if answer is None and self.fill == "zero":
                answer = Fraction(0)
            if answer is None and self.fill == "before" and answers:
                answer = answers[-1]
            answers.append(answer)
        return answers


class DrawnJoined:
    """Likewise for a joined query."""

    def __init__(self, draw, windows, depth=0):
        self.sign = draw.one_of("+-*/")
        self.one, self.other = [drawn_query(draw, windows, depth + 1) for _ in range(2)]

    def text(self):
        return f"({self.one.text()}) {self.sign} ({self.other.text()})"

    def rows(self, points, there):
        one, other = dict(self.one.rows(points, there)), dict(self.other.rows(points, there))
        return [(label, [self.answer(*pair) for pair in zip(one[label], other[label])]) for label in sorted(one)
                if label in other]

    def answer(self, one, other):
        if one is None or other is None or (self.sign == "/" and other == 0):
            return None
        return {"+": one + other, "-": one - other, "*": one * other, "/": one / (other or 1)}[self.sign]


def drawn_query(draw, windows, depth=0):
    return DrawnJoined(draw, windows, depth) if depth < 2 and draw.below(2) else Drawn(draw, windows)


def plain_rows(rows):
    """Rows that are told, with Fractions as their answers."""
    return [(label, [None if answer is None else Fraction(*answer) for answer in answers]) for label, answers in rows]


class DrawnTest(unittest.TestCase):
    def points(self, draw):
        return {text: {draw.below(24): draw.within(-4, 6) for _ in range(draw.below(7))} for text in TEXTS}

    def test_drawn_queries(self):
        draw = Draw(153)
        for turn in range(60):
            points = self.points(draw)
            plain = plain_of(FOR_EVER, {text: row.items() for text, row in points.items()})
            there = [text for text in TEXTS if points[text]]
            for _ in range(15):
                step, low = draw.within(1, 9), draw.below(12)
                query = drawn_query(draw, (low, low + step * draw.below(5), step))
                rows = ask(plain, query.text())
                self.assertEqual(plain_rows(rows), query.rows(points, there), query.text())
                self.assertTrue(all(answer is None or is_fraction(answer) for _, answers in rows for answer in answers))
                self.assertLessEqual(len(rows), len(there))

    def test_queries_cut_at_a_middle(self):
        draw = Draw(158)
        for _ in range(150):
            points = self.points(draw)
            plain = plain_of(FOR_EVER, {text: row.items() for text, row in points.items()})
            step, low, many = draw.within(1, 6), draw.below(9), draw.within(0, 6)
            middle, high = low + step * draw.within(0, many), low + step * many
            query = f"{draw.one_of(FUNCTIONS)} of {draw.one_of(['all', 'host=*', 'name=load'])} from LOW to HIGH every {step}"
            query += draw.one_of(["", " by host", " by zone", " by name"])
            whole, one, other = [ask(plain, query.replace("LOW", str(start)).replace("HIGH", str(end)))
                                 for start, end in ((low, high), (low, middle), (middle, high))]
            self.assertEqual(whole, [(label, answers + dict(other)[label]) for label, answers in one])

    def test_rows_by_a_key_against_the_row_without(self):
        draw = Draw(159)
        for _ in range(100):
            points = self.points(draw)
            plain = plain_of(FOR_EVER, {text: row.items() for text, row in points.items()})
            key = draw.one_of(["host", "zone", "name", "rack"])
            for function, put_together in {"count": sum, "sum": sum, "least": min, "greatest": max}.items():
                query = f"{function} of all from 0 to 24 every {draw.one_of([1, 2, 4, 8])}"
                whole = plain_rows(ask(plain, query))
                columns = zip(*[answers for _, answers in plain_rows(ask(plain, query + " by " + key))])
                wanted = []
                for column in columns:
                    some = [answer for answer in column if answer is not None]
                    wanted.append(put_together(some) if some else None)
                self.assertEqual(whole, [("", wanted)] if whole else [])


if __name__ == "__main__":
    unittest.main()
