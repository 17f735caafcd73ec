"""[156] and [162] to [165]: what a store asks, its views, and which of their windows are fresh."""

import unittest

from everygrain.answers import ask
from everygrain.disks import Disk
from everygrain.errors import (
    Gone, InvalidDeed, InvalidQuery, InvalidWindows, NoView, PowerCut, TooManyViews)
from everygrain.grains import Rules
from everygrain.logs import deed_record
from everygrain.octets import frame
from everygrain.queries import Query
from everygrain.rolls import newest_roll
from everygrain.selections import has
from everygrain.stores import Store
from everygrain.views import View
from tests.stores import (
    FOR_EVER, ONE, ROWS, THREE, TWO, VIEWS, clock, drawn_deed, outcome, plain_behind, put, store_of, take)
from tests.support import Draw, check_error, check_examples, check_given, odd_values
from tests.test_answers import drawn_query

TEXT = "sum of name=load every 4 by host"


def view(name="v", text=TEXT):
    return ("view", name, text)


def unview(name="v"):
    return ("unview", name)


class ExamplesTest(unittest.TestCase):
    def test_examples_of_the_interface(self):
        check_examples(self, r"""
>>> from everygrain.disks import Disk
>>> from everygrain.grains import Rules
>>> from everygrain.series import Series
>>> from everygrain.snapshots import changed, deeds_between
>>> from everygrain.stores import Store
>>> store, one, two = Store(Disk(), Rules([(1, 8), (4, None)])), Series("load", {"host": "a"}), Series("load", {"host": "b"})
>>> store.do(("view", "v", "sum of name=load  every 4 by host"))
>>> store.do(("put", one, 9, 5))
>>> [store.views(), store.read_view("v", 8, 16), store.fresh("v")]
[[('v', 'sum of name=load every 4 by host')], [('a', [(5, 1), (0, 1)])], [8, 12]]
>>> store.do(("put", two, 13, 7))
>>> before = store.snapshot()
>>> [store.fresh("v"), before.read_view("v", 8, 16), store.fresh("v")]
[[8], [('a', [(5, 1), (0, 1)]), ('b', [(0, 1), (7, 1)])], [8]]
>>> store.do(("put", one, 9, 6))
>>> store.do(("take", two, 12, 16))
>>> [store.fresh("v"), before.points(one, 0, 20), before.done(), store.done()]
[[], [(9, 5)], 3, 5]
>>> told = changed(before, store.snapshot(), 0, 20)
>>> [len(told), told[0][0] == one, told[0][1:], told[1][0] == two, told[1][1:]]
[2, True, (9, 5, 6), True, (13, 7, None)]
>>> deeds_between(before, store.snapshot(), 0, 20) == [("put", one, 9, 6), ("take", two, 13, 14)]
True
>>> changed(before, before, 8, 4)
raises InvalidWindow((8, 4))
""")


class AskTest(unittest.TestCase):
    def test_drawn_queries_against_the_plain_list(self):
        draw = Draw(156)
        for _ in range(12):
            store, _ = store_of(ROWS)
            plain = plain_behind(Rules(ROWS), [])
            for _ in range(40):
                deed = drawn_deed(draw, plain, False)
                self.assertEqual(outcome(store.do, deed), outcome(plain.do, deed))
                if draw.below(6) == 0:
                    draw.one_of([store.seal, store.merge, store.expire])()
                step, edge = draw.one_of([1, 2, 4, 8, 16]), plain.rules().edge(draw.below(3), plain.clock())
                low = max(0, edge // step * step - draw.below(2) * step)
                query = drawn_query(draw, (low, low + step * draw.below(5), step)).text()
                wanted = outcome(ask, plain, query)
                self.assertEqual(outcome(store.ask, query), wanted)
                self.assertEqual(outcome(ask, store, query), wanted)
                self.assertEqual(outcome(store.ask, Query(query)), wanted)
                self.assertEqual(outcome(store.snapshot().ask, query), wanted)

    def test_errors(self):
        store, _ = store_of(FOR_EVER, put(2), clock(30))
        for value in odd_values(str) + ["", "sum of all every 4", View("sum of all every 4")]:
            check_given(self, InvalidQuery, store.ask, value)
            check_given(self, InvalidQuery, lambda query: ask(store, query), value)
        check_error(self, Gone(4, 1), store.ask, "sum of name=none from 4 to 12 every 4")
        check_error(self, Gone(4, 1), ask, store, "sum of !all from 4 to 12 every 4")
        self.assertEqual(store.ask(query="sum of all from 0 to 8 every 8"), [("", [(1, 1)])])


class ViewsTest(unittest.TestCase):
    def test_made_replaced_and_taken_away(self):
        store, disk = store_of(FOR_EVER)
        self.assertEqual(store.views(), [])
        store.do(view("w", "sum of  (all) every 8"))
        store.do(view("v-1"))
        store.do(view("a", "count of all every 1"))
        self.assertEqual(store.views(), [("a", "count of all every 1"), ("v-1", TEXT), ("w", "sum of all every 8")])
        store.do(view("w", "last of all every 4"))
        store.do(unview("a"))
        self.assertEqual(store.views(), [("v-1", TEXT), ("w", "last of all every 4")])
        self.assertEqual((store.done(), store.clock(), store.series()), (5, 0, []))
        wanted = [view("w", "sum of all every 8"), view("v-1"), view("a", "count of all every 1"),
                  view("w", "last of all every 4"), unview("a")]
        self.assertEqual(disk.read("log-1"), [octet for deed in wanted for octet in frame(deed_record(deed))])
        for row in store.views():
            self.assertIs(type(row), tuple)

    def test_eight_and_nine(self):
        store, disk = store_of(FOR_EVER, *[view(f"v{at}") for at in range(8)])
        before = disk.copied()
        check_error(self, TooManyViews(8), store.do, view("v8"))
        self.assertEqual((len(store.views()), store.done(), disk == before), (8, 8, True))
        # One that is replaced is no further one.
        store.do(view("v3", "sum of all every 1"))
        store.do(unview("v0"))
        store.do(view("v8"))
        check_error(self, TooManyViews(8), store.do, view("v0"))
        self.assertEqual([name for name, _ in store.views()], [f"v{at}" for at in range(1, 9)])
        self.assertEqual(Store(disk).views(), store.views())

    def test_names_and_texts_that_are_none(self):
        store, disk = store_of(FOR_EVER, view())
        before = disk.copied()
        for value in odd_values(str) + ["", "V", "9", "-v", "v v", "v" * 25, "v\n"]:
            for deed in (("view", value, TEXT), ("unview", value), ("view", value, "no text")):
                check_given(self, InvalidDeed, store.do, deed)
        for value in odd_values(str) + ["", "sum of all", "sum of all every 0", "sum of all every 4 top 1", View(TEXT),
                                        "sum of all from 0 to 8 every 4", Query("sum of all from 0 to 8 every 4")]:
            check_given(self, InvalidDeed, store.do, ("view", "v", value))
        for deed in (("view", "v"), ("view", "v", TEXT, TEXT), ("unview",), ("unview", "v", TEXT), ["view", "v", TEXT],
                     ["unview", "v"], ("views", "v", TEXT), ("VIEW", "v", TEXT)):
            check_given(self, InvalidDeed, store.do, deed)
        self.assertEqual((disk == before, store.done()), (True, 1))

    def test_the_order_of_errors(self):
        store, disk = store_of(FOR_EVER, *[view(f"v{at}") for at in range(8)])
        disk.limit(0)
        check_error(self, InvalidDeed(("view", "v9", "x")), store.do, ("view", "v9", "x"))
        check_error(self, NoView("v9"), store.do, unview("v9"))
        check_error(self, TooManyViews(8), store.do, view("v9"))
        self.assertEqual(disk.left(), 0)
        check_error(self, PowerCut(), store.do, unview("v1"))

    def test_a_view_that_is_not_there_is_not_taken_away(self):
        store, _ = store_of(FOR_EVER, view(), unview())
        check_error(self, NoView("v"), store.do, unview())
        self.assertEqual(store.done(), 2)

    def test_the_text_may_be_long_if_its_plainest_is_not(self):
        store, _ = store_of(FOR_EVER)
        store.do(view("v", "sum  of  all " + " " * 430 + " every 4"))
        self.assertEqual(store.views(), [("v", "sum of all every 4")])

    def test_views_last(self):
        store, disk = store_of(FOR_EVER, view("w", "sum of all every 8"), view(), view("x"), put(9), unview("x"))
        wanted = [("v", TEXT), ("w", "sum of all every 8")]
        for step in (store.sync, store.seal, store.merge, store.expire):
            step()
            self.assertEqual(store.views(), wanted)
            self.assertEqual(Store(disk.copied()).views(), wanted)
        self.assertEqual(newest_roll(disk)[1].views, tuple(wanted))

    def test_views_behind_cuts(self):
        octets = frame(deed_record(view("w")))
        for remain in range(len(octets) + 1):
            store, disk = store_of(FOR_EVER, view())
            store.sync()
            store.do(view("w"))
            again = Store(disk.remains({"log-1": remain}))
            self.assertEqual([name for name, _ in again.views()], ["v", "w"] if remain == len(octets) else ["v"])


class ReadTest(unittest.TestCase):
    def test_what_ask_tells(self):
        draw = Draw(163)
        for _ in range(10):
            store, _ = store_of(ROWS)
            plain = plain_behind(Rules(ROWS), [])
            for name, text in zip("abcd", VIEWS):
                store.do(view(name, text))
            for _ in range(40):
                deed = drawn_deed(draw, plain, False)
                if outcome(store.do, deed) is None:
                    plain.do(deed)
                name, text = draw.one_of(store.views())
                step, edge = View(text).step(), plain.rules().edge(draw.below(3), plain.clock())
                low = max(0, edge // step * step - draw.below(2) * step)
                high = low + step * draw.below(5)
                wanted = outcome(ask, plain, text.replace("every", f"from {low} to {high} every"))
                self.assertEqual(outcome(store.snapshot().read_view, name, low, high), wanted)
                self.assertEqual(outcome(store.read_view, name, low, high), wanted)

    def test_rows_come_and_go(self):
        store, _ = store_of(FOR_EVER, view(), put(9, 5, TWO))
        self.assertEqual(store.read_view("v", 8, 12), [("a", [(5, 1)])])
        store.do(put(100, 1, THREE))
        self.assertEqual(store.fresh("v"), [8])
        self.assertEqual(store.read_view("v", 8, 12), [("a", [(5, 1)]), ("b", [(0, 1)])])
        store.do(take(50, 200, THREE))
        self.assertEqual(store.fresh("v"), [8])
        self.assertEqual(store.read_view(name="v", low=8, high=12), [("a", [(5, 1)])])

    def test_errors_in_their_order(self):
        store, _ = store_of(FOR_EVER, view(), clock(30))
        for value in odd_values(str) + ["", "w", "V", " v", "sum of all every 4"]:
            for call in (lambda name: store.read_view(name, 5, 4), store.fresh, lambda name: store.snapshot().read_view(name, 5, 4)):
                with self.assertRaises(NoView) as caught:
                    call(value)
                self.assertIs(caught.exception.name, value)
        for source in (store, store.snapshot()):
            for low, high in ((0, 3), (4, 0), (0, 1604), (-4, 0), (None, 4), (0, True), (0, 1.0)):
                check_error(self, InvalidWindows((low, high, 4)), source.read_view, "v", low, high)
            check_error(self, Gone(4, 1), source.read_view, "v", 4, 12)
            self.assertEqual(source.read_view("v", 4, 4), [])


class FreshTest(unittest.TestCase):
    def store(self, *deeds):
        """A store whose view has fresh windows from 0 to 20."""
        store, disk = store_of(ROWS, view(), put(5, 1, TWO), *deeds)
        store.read_view("v", 0, 20)
        self.assertEqual(store.fresh("v"), [0, 4, 8, 12, 16])
        return store, disk

    def check(self, deed, *wanted):
        store, _ = self.store()
        store.do(deed)
        self.assertEqual(store.fresh("v"), list(wanted), deed)

    def test_puts(self):
        self.check(put(8, 1, TWO), 0, 4, 12, 16)
        self.check(put(11, 1, TWO), 0, 4, 12, 16)
        self.check(put(12, 1, THREE), 0, 4, 8, 16)
        self.check(put(20, 1, TWO), 0, 4, 8, 12, 16)
        # Also if it changes no point.
        self.check(put(5, 1, TWO), 0, 8, 12, 16)
        # A series that is not meant.
        self.check(put(5, 1, ONE), 0, 4, 8, 12, 16)

    def test_takes(self):
        self.check(take(8, 12, TWO), 0, 4, 12, 16)
        self.check(take(7, 12, TWO), 0, 12, 16)
        self.check(take(7, 13, TWO), 0, 16)
        self.check(take(9, 10, THREE), 0, 4, 12, 16)
        self.check(take(0, 99, TWO))
        self.check(take(20, 99, TWO), 0, 4, 8, 12, 16)
        self.check(take(0, 99, ONE), 0, 4, 8, 12, 16)

    def test_clocks(self):
        # Windows of 4 at 0 and 4 are not told from the clock 28 on, those at 8 and 12 from 36 on.
        self.check(clock(0), 0, 4, 8, 12, 16)
        self.check(clock(27), 0, 4, 8, 12, 16)
        self.check(clock(28), 8, 12, 16)
        self.check(clock(35), 8, 12, 16)
        self.check(clock(36), 16)
        self.check(clock(99))

    def test_a_clock_that_a_window_outlasts_at_a_longer_grain(self):
        store, _ = store_of(ROWS, view("v", "sum of all every 8"))
        store.read_view("v", 0, 16)
        store.do(clock(47))
        self.assertEqual(store.fresh("v"), [0, 8])
        store.do(clock(48))
        self.assertEqual(store.fresh("v"), [8])

    def test_a_clock_at_which_windows_are_told_for_ever(self):
        store, _ = store_of(FOR_EVER, view("v", "sum of all every 8"), view("w", "sum of all every 4"))
        store.read_view("v", 0, 16)
        store.read_view("w", 0, 16)
        store.do(clock(10 ** 9))
        # Of the windows of 4 none is told: those that begin at 0 and 8 have the longest grain 1, too.
        self.assertEqual((store.fresh("v"), store.fresh("w")), ([0, 8], []))

    def test_refused_deeds_touch_nothing(self):
        store, _ = self.store(clock(17))
        for deed in (put(3, 1, TWO), take(3, 99, TWO), clock(16), ("put", TWO, 9), unview("w")):
            self.assertIsInstance(outcome(store.do, deed), tuple)
            self.assertEqual(store.fresh("v"), [0, 4, 8, 12, 16])

    def test_deeds_of_views(self):
        store, _ = self.store(view("w"))
        for deed in (view("w"), unview("w"), view("u")):
            store.do(deed)
            self.assertEqual(store.fresh("v"), [0, 4, 8, 12, 16])
        store.do(view())
        self.assertEqual(store.fresh("v"), [])
        store.read_view("v", 0, 8)
        self.assertEqual(store.fresh("v"), [0, 4])
        store.do(unview())
        check_error(self, NoView("v"), store.fresh, "v")
        store.do(view())
        self.assertEqual(store.fresh("v"), [])

    def test_no_deed_makes_a_window_fresh(self):
        store, _ = store_of(ROWS, view(), put(5, 1, TWO))
        self.assertEqual(store.fresh("v"), [])
        store.do(put(5, 1, TWO))
        self.assertEqual(store.fresh("v"), [])

    def test_readings(self):
        store, _ = self.store()
        # Of other windows, some of which were fresh; of none; and calls that are no readings.
        store.do(put(9, 1, TWO))
        store.read_view("v", 16, 24)
        self.assertEqual(store.fresh("v"), [16, 20])
        for call in (lambda: store.read_view("v", 0, 3), lambda: store.read_view("w", 0, 4),
                     lambda: store.read_view("v", 0, None)):
            self.assertIsInstance(outcome(call), tuple)
            self.assertEqual(store.fresh("v"), [16, 20])
        store.ask("sum of name=load from 0 to 8 every 4 by host")
        store.snapshot().read_view("v", 0, 8)
        self.assertEqual(store.fresh("v"), [16, 20])
        store.read_view("v", 8, 8)
        self.assertEqual(store.fresh("v"), [])
        store.do(clock(40))
        store.read_view("v", 24, 32)
        self.assertEqual(outcome(store.read_view, "v", 0, 8)[0], "Gone")
        self.assertEqual(store.fresh("v"), [24, 28])

    def test_views_are_apart(self):
        store, _ = store_of(ROWS, view(), view("w", "sum of name=a every 2"))
        store.read_view("v", 0, 8)
        store.read_view("w", 0, 8)
        store.do(put(3, 1, TWO))
        self.assertEqual((store.fresh("v"), store.fresh("w")), ([4], [0, 2, 4, 6]))
        store.do(take(3, 5, ONE))
        self.assertEqual((store.fresh("v"), store.fresh("w")), ([4], [0, 6]))

    def test_what_touches_none(self):
        store, disk = self.store(put(20, 1, TWO), clock(17))
        for call in (store.sync, store.seal, store.merge, store.expire):
            call()
            self.assertEqual(store.fresh("v"), [0, 4, 8, 12, 16])
        store.do(put(40, 1, TWO))
        store.merge(True)
        store.fresh("v").clear()
        self.assertEqual(store.fresh("v"), [0, 4, 8, 12, 16])
        # A view of a store that was just opened has none.
        self.assertEqual(Store(disk).fresh("v"), [])

    def test_400_windows(self):
        store, _ = store_of(ROWS, view("v", "sum of all every 1"))
        store.read_view("v", 5, 405)
        self.assertEqual(store.fresh(name="v"), list(range(5, 405)))

    def test_drawn_rows_of_deeds_and_readings(self):
        draw = Draw(164)
        for _ in range(25):
            store, plain, lows, names = Store(Disk(), Rules(ROWS)), plain_behind(Rules(ROWS), []), {}, {}
            told = {}
            for _ in range(60):
                deed = drawn_deed(draw, plain)
                if draw.below(3) == 0 and names:
                    self.check_reading(draw, store, plain, names, lows, told)
                elif outcome(store.do, deed) is None:
                    self.note(deed, plain, names, lows, told)
                elif draw.below(2):
                    draw.one_of([store.seal, store.merge, store.expire, store.sync])()
                for name in names:
                    self.assertEqual(store.fresh(name), lows.get(name, []))

    def note(self, deed, plain, names, lows, told):
        """Let the windows go that a deed touches, as plainly as can be."""
        if deed[0] == "view":
            names[deed[1]] = View(deed[2])
        elif deed[0] == "unview":
            names.pop(deed[1])
        else:
            plain.do(deed)
        if deed[0] in ("view", "unview"):
            lows.pop(deed[1], None)
            told.pop(deed[1], None)
        for name, low_list in lows.items():
            lows[name] = [low for low in low_list if not self.touches(deed, names[name], low, plain)]

    def touches(self, deed, told_view, low, plain):
        times = range(low, low + told_view.step())
        if deed[0] == "clock":
            return isinstance(outcome(plain.rules().teller, low, told_view.step(), deed[1]), tuple)
        if deed[0] in ("view", "unview") or not has(Query(told_view.query(0, 0).text()).asked().phrase.selection, deed[1]):
            return False
        stretch = range(deed[2], deed[2] + 1 if deed[0] == "put" else deed[3])
        return any(time in stretch for time in times)

    def check_reading(self, draw, store, plain, names, lows, told):
        name = draw.one_of(sorted(names))
        step, edge = names[name].step(), plain.rules().edge(draw.below(3), plain.clock())
        low = edge // step * step + draw.below(2) * step
        high = low + step * draw.below(6)
        rows = outcome(store.read_view, name, low, high)
        if isinstance(rows, tuple):
            return
        # What is fresh tells the same answer as the latest reading, in each row that both have.
        if "before" not in names[name].text():
            for label, answers in rows:
                for start, answer in zip(range(low, high, step), answers):
                    if start in lows.get(name, []) and (label, start) in told.get(name, {}):
                        self.assertEqual(answer, told[name][label, start])
        lows[name] = list(range(low, high, step))
        told[name] = {(label, start): answer for label, answers in rows for start, answer in zip(lows[name], answers)}


if __name__ == "__main__":
    unittest.main()
