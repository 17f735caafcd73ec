"""[8]: stores and queries of the greatest size."""

import unittest

from everygrain.answers import ask
from everygrain.disks import Disk
from everygrain.examiner import examine, meaning
from everygrain.grains import Rules
from everygrain.plain import Plain
from everygrain.series import Series
from everygrain.stores import Store
from tests.support import Draw

RULES = Rules([(1, 1000), (10, 3000), (100, 6000), (400, 200000)])
SERIES = [Series("load", {"host": f"h{at}", "zone": f"z{at % 5}", "a": "x" * 24, "b": "y" * 24, "c": "w" * 24, "d": str(at)})
          for at in range(24)]


class SizeTest(unittest.TestCase):
    def test_24_series_4_grains_and_400_deeds(self):
        draw = Draw(8)
        store, plain = Store(Disk(), RULES), Plain(RULES)
        store.do(("view", "v", "mean of all every 400 by zone fill before"))
        while plain.done() < 399:
            low = RULES.edge(0, plain.clock())
            deed = ("put", draw.one_of(SERIES), low + draw.below(4000), draw.within(-10 ** 12, 10 ** 12))
            if draw.below(9) == 0:
                deed = ("take", draw.one_of(SERIES), low + draw.below(4000), low + 5000)
            elif draw.below(20) == 0:
                deed = ("clock", plain.clock() + draw.below(800))
            store.do(deed)
            plain.do(deed)
            if draw.below(3) == 0:
                store.seal()
            if draw.below(40) == 0:
                store.expire()
        self.assertGreater(len(store.blocks()), 60)
        self.check(store, plain)
        again = Store(store._disk.copied(), RULES)
        again.expire()
        again.merge()
        self.assertEqual((examine(again._disk), meaning(again._disk)[0]), ([], 400))
        self.check(again, plain)

    def check(self, store, plain):
        low = RULES.edge(2, plain.clock())
        for ending in ("", " by zone fill before top 3", " by host bottom 24"):
            for function in ("sum", "rate"):
                query = f"{function} of all from {low} to {low + 400 * 400} every 400{ending}"
                self.assertEqual(store.ask(query), ask(plain, query))
        query = f"(sum of all from {low} to {low + 400 * 400} every 400)"
        whole = query
        for _ in range(7):
            whole = f"({whole}) + {query}" if whole != query else f"{query} + {query}"
        self.assertEqual(store.ask(whole), ask(plain, whole))
        low = RULES.edge(0, plain.clock())
        query = f"mean of all from {low} to {low + 400} every 1 by zone fill before"
        self.assertEqual(store.ask(query), ask(plain, query))
        self.assertEqual(store.read_view("v", 400 * (low // 400), 400 * (low // 400) + 160000),
                         ask(plain, store.views()[0][1].replace(
                             "every", f"from {400 * (low // 400)} to {400 * (low // 400) + 160000} every")))
        self.assertEqual(len(store.fresh("v")), 400)
        for series in SERIES:
            self.assertEqual(store.folds(series, low, low + 400, 1), plain.folds(series, low, low + 400, 1))
            self.assertEqual(store.points(series, low, low + 10 ** 6), plain.points(series, low, low + 10 ** 6))
        self.assertEqual(store.series(), plain.series())


if __name__ == "__main__":
    unittest.main()
