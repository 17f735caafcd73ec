"""[161]: the texts of views."""

import unittest

from everygrain.errors import InvalidQuery, InvalidWindows
from everygrain.queries import Query
from everygrain.series import Series
from everygrain.views import View
from tests.support import Draw, check_error, check_examples, check_given, odd_values
from tests.test_queries import FUNCTIONS, drawn_selection, is_selection, plain_windows, spaced

LONG = "k" * 24


class ExamplesTest(unittest.TestCase):
    def test_examples_of_the_interface(self):
        check_examples(self, r"""
>>> from everygrain.views import View
>>> view = View("sum of  name=load every 4 by host fill zero")
>>> [view.text(), view.step(), view.query(8, 16).text()]
['sum of name=load every 4 by host fill zero', 4, 'sum of name=load from 8 to 16 every 4 by host fill zero']
>>> View("sum of all every 4 top 1")
raises InvalidQuery('sum of all every 4 top 1')
""")


def is_view(parts):
    """Tell whether parts are those of a view, by putting windows into them."""
    if "top" in parts[-2:-1] or "bottom" in parts[-2:-1]:
        # These are the words of an ending, or a key or a word that ends it.
        if parts[-1].isdigit():
            return False
    for at in range(2, len(parts)):
        if parts[at] == "every" and is_selection(parts[2:at]):
            return plain_windows(parts[:at] + ["from", "0", "to", "0"] + parts[at:]) is not None
    return False


def text_of(size):
    """The plainest text of a view of so many signs."""
    tests = [LONG + "=" + LONG] * 7
    text = "sum of " + " & ".join(tests) + " every 4"
    return text + " by " + "k" * (size - len(text) - len(" by "))


class ViewTest(unittest.TestCase):
    def check(self, text, plain=None):
        view = View(text)
        self.assertEqual(view.text(), text if plain is None else plain)
        self.assertEqual(View(view.text()), view)

    def check_none(self, text):
        check_given(self, InvalidQuery, View, text)

    def test_each_ending(self):
        for function in FUNCTIONS:
            for key in ("", " by host", " by by", " by fill", " by name", " by every"):
                for fill in ("", " fill zero", " fill before"):
                    self.check(f"{function} of host=a every 4{key}{fill}")
                    self.check(f" {function}  of (host =a)every  4 {key} {fill} ", f"{function} of host=a every 4{key}{fill}")

    def test_no_views(self):
        for text in ("", "sum", "sum of all", "sum of every 4", "sum of all every", "sum of all every 0", "sum of all every 04",
                     "sum of all every -4", "sum of all every a", "all every 4", "sums of all every 4", "sum all every 4",
                     "sum of all from 0 to 8 every 4", "sum of all every 4 from 0 to 8", "sum of all every 4 top 1",
                     "sum of all every 4 bottom 1", "sum of all every 4 fill zero top 1", "sum of all every 4 by",
                     "sum of all every 4 by 9", "sum of all every 4 fill", "sum of all every 4 fill one",
                     "sum of all every 4 fill zero by host", "sum of all every 4 by host by host",
                     "sum of all every 4 fill zero fill zero", "sum of all every 4 4", "(sum of all every 4)",
                     "(sum of all every 4) + (sum of all every 4)", "sum of all & every 4", "sum of all every 4.",
                     "sum of all\tevery 4", "sum of " + "!" * 40 + "all every 4"):
            self.check_none(text)
        for value in odd_values(str) + [b"sum of all every 4", View("sum of all every 4"), ["sum of all every 4"]]:
            self.check_none(value)
        self.check("sum of " + "!" * 39 + "all every 4")

    def test_400_and_401_signs(self):
        for size in (395, 399, 400):
            text = text_of(size)
            self.assertEqual(len(text), size)
            self.check(text)
            # Only the plainest text counts.
            self.check("  " + text.replace("&", " & ") + "    ", text)
        for size in (401, 402, 404):
            text = text_of(size)
            self.assertEqual(len(text), size)
            self.check_none(text)
            self.check_none(text.replace(" & ", "&"))
        self.check(("sum of (((all))) every 4" + " " * 500), "sum of all every 4")

    def test_step(self):
        for step in (1, 4, 999999999999):
            told = View(f"sum of all every {step}").step()
            self.assertEqual((told, type(told)), (step, int))

    def test_equal(self):
        one = View("sum of all & (host=a) every 4 by host")
        self.assertEqual(one, View(" sum of all&host=a every 4 by host "))
        for text in ("sum of host=a & all every 4 by host", "sum of all & host=a every 4", "sum of all & host=a every 8 by host",
                     "last of all & host=a every 4 by host", "sum of all & host=a every 4 by host fill zero"):
            self.assertNotEqual(one, View(text))
        for value in odd_values() + [one.text(), one.query(0, 0)]:
            self.assertFalse(one == value)
            self.assertTrue(one != value)

    def test_drawn_views_and_texts_near_them(self):
        draw = Draw(161)
        more = ["(", ")", "!", "&", "|", "=", "*", "all", "of", "from", "to", "every", "by", "fill", "zero", "top", "1", "4",
                "host", "before", "01", "0"]
        right = wrong = 0
        for _ in range(200):
            parts = [draw.one_of(FUNCTIONS), "of"] + drawn_selection(draw) + ["every", str(draw.within(1, 12))]
            parts += draw.one_of([[], ["by", "host"], ["by", "top"], ["by", "fill"]])
            parts += draw.one_of([[], ["fill", "zero"], ["fill", "before"]])
            for turn in range(12):
                near = list(parts)
                at, to = draw.below(len(near)), draw.below(len(near))
                if turn % 4 == 1:
                    del near[at]
                elif turn % 4 == 2:
                    near[at], near[to] = near[to], near[at]
                elif turn % 4 == 3:
                    near[at] = draw.one_of(more)
                text = spaced(draw, near)
                if is_view(near):
                    right += 1
                    self.assertEqual(View(View(text).text()), View(text))
                    self.assertEqual(View(text).query(0, 0).text().replace(" from 0 to 0 every", " every"), View(text).text())
                else:
                    wrong += 1
                    self.check_none(text)
        self.assertGreater(min(right, wrong), 500)

    def test_the_text_may_be_passed_by_name(self):
        self.assertEqual(View(text="sum of all every 4").step(), 4)


class WindowsTest(unittest.TestCase):
    VIEW = View("mean of from=every | all every 5 by every fill before")

    def test_windows(self):
        for low, high in ((0, 0), (0, 5), (3, 2003), (7, 7), (10 ** 12, 10 ** 12 + 5)):
            query = self.VIEW.query(low, high)
            self.assertIs(type(query), Query)
            text = f"mean of from=every | all from {low} to {high} every 5 by every fill before"
            self.assertEqual((query, query.text()), (Query(text), text))
            self.assertEqual(query.windows(), (low, high, 5))
        self.assertEqual(self.VIEW.query(low=5, high=10).windows(), (5, 10, 5))

    def test_no_windows(self):
        for low, high in ((0, 4), (5, 0), (0, 2005), (-5, 5), (0, -5), (0, 6), (0, 10 ** 12)):
            check_error(self, InvalidWindows((low, high, 5)), self.VIEW.query, low, high)
        for value in odd_values():
            for low, high in ((value, 5), (0, value), (value, value)):
                with self.assertRaises(InvalidWindows) as caught:
                    self.VIEW.query(low, high)
                given = caught.exception.given
                self.assertIs(type(given), tuple)
                self.assertEqual((given[0] is low, given[1] is high, given[2]), (True, True, 5))

    def test_which_series_are_meant(self):
        view = View("sum of host=a & !zone=x every 4")
        self.assertEqual([view.means(Series("load", tags)) for tags in ({"host": "a"}, {"host": "a", "zone": "x"}, {})],
                         [True, False, False])


if __name__ == "__main__":
    unittest.main()
