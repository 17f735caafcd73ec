"""[174] to [177]: the lines of a desk and their answers."""

import unittest

from everygrain.answers import ask, told
from everygrain.desk import Desk, read_desk
from everygrain.disks import Disk
from everygrain.errors import InvalidLine, InvalidLines, InvalidRules
from everygrain.examiner import examine, meaning
from everygrain.grains import Rules
from everygrain.series import read_series
from everygrain.stores import Store
from tests.stores import FOR_EVER, ROWS, TEXTS, VIEWS, outcome, plain_behind
from tests.support import Draw, check_examples, check_given, odd_values

RULES = Rules(FOR_EVER)


def desk_behind(*lines, rules=RULES):
    desk = Desk(rules)
    for line in lines:
        desk.do(line)
    return desk


class ExamplesTest(unittest.TestCase):
    def test_examples_of_the_interface(self):
        check_examples(self, r"""
>>> from everygrain.desk import Desk, read_desk
>>> from everygrain.disks import Disk
>>> from everygrain.examiner import examine, meaning
>>> from everygrain.grains import Rules
>>> desk = Desk(Rules([(1, 8), (4, None)]))
>>> [desk.do("put load{host=a} 3 5"), desk.do("sync"), desk.do("put load{host=a} 4 -2"), desk.do("ask sum of all from 0 to 8 every 4")]
[['done 1'], ['synced 1'], ['done 2'], ['. 5 -2']]
>>> [desk.do("clock 20"), desk.do("put load{} 3 1"), desk.do("points load{host=a} 0 9"), desk.do("examine")]
[['done 3'], ['gone 3 0'], ['gone 0 0'], ['no fault']]
>>> [desk.do("cut 5"), desk.do("put load{} 13 1"), desk.do("sync"), desk.do("examine")]
[['limit 5'], ['cut'], ['cut'], ['log 43']]
>>> [desk.do("open 19"), desk.do("points load{host=a} 0 9"), desk.do("examine")]
[['open 2'], ['3 5', '4 -2'], ['no fault']]
>>> disk = desk.disk()
>>> disk.append("log-9", [])
>>> disk.append("roll-7", [3, 1])
>>> [examine(disk), meaning(disk), examine(Disk()), meaning(Disk())]
[[('roll', 'roll-7'), ('stray', 'log-9')], (2, 0, [], {'load{host=a}': [(3, 5), (4, -2)]}, [{}]), [('none',)], None]
>>> [read_desk(Rules([(1, 8), (4, None)]), desk.journal()).disk() == desk.disk(), len(desk.journal())]
[True, 15]
>>> desk.do("put load{} 013 1")
raises InvalidLine('put load{} 013 1')
""")


RIGHT = ["put a{} 3 5", "put a{zone=x,host=b} 0 -5", "put a{} 999999999999 0", "take a{} 3 4", "take a{} 0 999999999999",
         "clock 0", "clock 7", "view v sum of all every 4", "view v  sum  of all every 4  ", "view v sum of(all)every 4",
         "view view count of all=view every 1 by view fill zero", "unview v", "unview unview", "sync", "seal", "merge",
         "merge last", "expire", "ask sum of all from 0 to 8 every 4", "ask   sum of all from 0 to 8 every 4 ",
         "ask (sum of all from 0 to 8 every 4)-(sum of all from 0 to 8 every 4)", "read v 0 8", "read v 8 0", "read v 0 7",
         "points a{} 0 9", "points a{} 9 9", "points a{b=c} 0 0", "views", "fresh v", "fresh v-9", "cut 0", "cut 99999", "open",
         "open 0", "open 7", "examine"]

WRONG = ["", " ", "put", "put a{}", "put a{} 3", "put a{} 3 5 6", "put a{} 3  5", "put  a{} 3 5", " put a{} 3 5", "put a{} 3 5 ",
         "put a 3 5", "put a{host} 3 5", "put a{host=} 3 5", "put a{name=b} 3 5", "put A{} 3 5", "put a{b=c, d=e} 3 5",
         "put a{} -3 5", "put a{} 3 -0", "put a{} 3 +5", "put a{} 3 05", "put a{} 3 -05", "put a{} 3 --5", "put a{} 3 5.0",
         "put a{} 3 -", "put a{} 03 5", "put a{} x 5", "put a{} 3 x", "put a{} 3 1_0", "put a{} \u0663 5", "put a{} 3 \u00b2",
         "Put a{} 3 5", "puts a{} 3 5", "put\ta{} 3 5", "put a{} 3 5\n", "\nput a{} 3 5", "take a{} 3 3", "take a{} 4 3",
         "take a{} 3", "take a{} -3 4", "take a{} 3 4 5", "take a 3 4", "take a{} 03 4", "take a{} 3 04", "take a{}  3 4",
         "clock", "clock -1", "clock 01", "clock x", "clock 1 2", "clock 1 ", "clock  1", "view", "view v", "view v ",
         "view  v sum of all every 4", "view V sum of all every 4", "view 9 sum of all every 4", "view v sum of all",
         "view v sum of all from 0 to 8 every 4", "view v sum of all every 4 top 1", "view v\tsum of all every 4",
         "view v sum\tof all every 4", "view " + "v" * 25 + " sum of all every 4", "view sum of all every 4", "view v x",
         "unview", "unview ", "unview v v", "unview v ", "unview  v", "unview V", "unview 9", "sync ", " sync", "sync 1", "Sync",
         "syncs", "seal ", "seal x", "merge ", "merge  last", "merge last ", "merge first", "merge last last", "merge 1",
         "merge True", "expire ", "expire 1", "ask", "ask ", "ask sum of all every 4", "ask sum of all from 0 to 6 every 4",
         "ask x", "asksum of all from 0 to 8 every 4", "ask\tsum of all from 0 to 8 every 4", "read", "read v", "read v 0",
         "read v 0 8 4", "read v -1 8", "read v 00 8", "read V 0 8", "read v  0 8", "read v 0 8 ", "read 0 8", "points",
         "points a{}", "points a{} 0", "points a{} 9 8", "points a{} 0 9 9", "points a 0 9", "points a{} 0 09", "points a{}  0 9",
         "points a{} 0 9 ", "points a{} -1 9", "views ", "views v", "view s", "fresh", "fresh ", "fresh V", "fresh v v",
         "fresh v ", "cut", "cut ", "cut -1", "cut 01", "cut x", "cut 1 1", "cut  1", "cut 1 ", "open ", "open x", "open -1",
         "open 01", "open 1 1", "open  1", "open 1 ", "close", "examine ", "examine disk", "limit 5", "done 1", "fold a{} 0 8 4",
         "folds a{} 0 8 4", "snapshot", "journal", "disk", "weight", "blocks", "name x", "last", "merge-last", "open,1"]


class LinesTest(unittest.TestCase):
    def test_lines(self):
        for line in RIGHT:
            desk = Desk(RULES)
            answer = desk.do(line)
            self.assertIs(type(answer), list)
            self.assertTrue(all(type(one) is str for one in answer))
            self.assertEqual(desk.journal(), [line])

    def test_no_lines(self):
        desk = desk_behind("put a{} 3 5", "view v sum of all every 4")
        before = desk.disk()
        for line in WRONG + odd_values(str) + [b"sync", ["sync"]]:
            check_given(self, InvalidLine, desk.do, line)
        self.assertEqual((desk.journal(), desk.disk() == before), (["put a{} 3 5", "view v sum of all every 4"], True))
        desk.do("cut 0")
        desk.do("sync")
        for line in WRONG:
            check_given(self, InvalidLine, desk.do, line)
        self.assertEqual(len(desk.journal()), 4)

    def test_longest_lines(self):
        series = "n" * 24 + "{" + ",".join("k" * 23 + str(at) + "=" + "w" * 24 for at in range(6)) + "}"
        desk = Desk(RULES)
        self.assertEqual(desk.do(f"put {series} 999999999999 -999999999999"), ["done 1"])
        self.assertEqual(desk.do(f"points {series} 0 999999999999"), [])
        self.assertEqual(desk.do(f"points {series} 999999999999 1000000000000"), ["999999999999 -999999999999"])

    def test_no_rules(self):
        for value in odd_values() + [FOR_EVER]:
            check_given(self, InvalidRules, Desk, value)
            check_given(self, InvalidRules, lambda rules: read_desk(rules, 7), value)


class Asked(unittest.TestCase):
    def check_answers(self, desk, *rows):
        for line, *answer in rows:
            self.assertEqual(desk.do(line), answer, line)


class AnswersTest(Asked):
    def test_deeds(self):
        self.check_answers(
            Desk(RULES), ("put a{} 3 5", "done 1"), ("put a{} 9 -5", "done 2"), ("take a{} 8 10", "done 3"),
            ("view v sum of  all every 4", "done 4"), ("clock 14", "done 5"), ("put a{} 3 5", "gone 3 0"),
            ("take a{} 3 99", "gone 3 0"), ("clock 13", "back 13"), ("unview w", "no view w"), ("unview v", "done 6"),
            ("unview v", "no view v"), ("clock 14", "done 7"), ("put a{} 4 0", "done 8"))

    def test_too_many_views(self):
        desk = desk_behind(*[f"view v{at} sum of all every 4" for at in range(8)])
        self.check_answers(desk, ("view v8 sum of all every 4", "too many views 8"), ("view v7 sum of all every 2", "done 9"))

    def test_calls(self):
        self.check_answers(
            Desk(RULES), ("sync", "synced 0"), ("seal", "no"), ("merge", "no"), ("merge last", "no"), ("expire", "no"),
            ("put a{} 3 5", "done 1"), ("sync", "synced 1"), ("seal", "yes"), ("seal", "no"), ("merge", "no"),
            ("put a{} 4 6", "done 2"), ("merge last", "yes"), ("merge last", "no"), ("take a{} 4 5", "done 3"), ("merge", "yes"),
            ("clock 40", "done 4"), ("expire", "yes"), ("expire", "no"), ("examine", "no fault"))

    def test_merge_last_takes_two(self):
        lines = ["put a{} 1 1", "seal", "put a{} 2 1", "seal", "put a{} 3 1"]
        desk = desk_behind(*lines, "merge last")
        self.assertEqual(len([name for name in desk.disk().names() if name.startswith("block")]), 2)
        desk = desk_behind(*lines, "merge")
        self.assertEqual(len([name for name in desk.disk().names() if name.startswith("block")]), 1)

    def test_questions(self):
        desk = desk_behind("put load{host=a} 1 6", "put load{host=a} 3 1", "put load{host=b} 3 4", "put load{} 9 2",
                           "view v  mean of all every 4  by host", "view a count of all every 1")
        self.check_answers(
            desk, ("ask mean of all from 0 to 12 every 4 by host", "- - - 2", "a 7/2 - -", "b 4 - -"),
            ("ask  sum of !all from 0 to 12 every 4",), ("ask sum of all from 4 to 4 every 4", "."),
            ("ask (sum of all from 0 to 4 every 4)/(count of name=load from 0 to 4 every 4)", ". 11/3"),
            ("read v 0 8", "- - -", "a 7/2 -", "b 4 -"), ("fresh v", "0", "4"), ("put load{} 4 4", "done 7"), ("fresh v", "0"),
            ("read v 4 4", "-", "a", "b"), ("fresh v",), ("read w 0 4", "no view w"), ("fresh w", "no view w"),
            ("fresh examine", "no view examine"), ("unview open", "no view open"),
            ("read v 0 6", "no windows 0 6 4"), ("read v 8 4", "no windows 8 4 4"), ("read w 8 4", "no view w"),
            ("points load{host=a} 0 9", "1 6", "3 1"), ("points load{host=a} 2 2",), ("points none{} 0 9",),
            ("points load{host=a} 1 3", "1 6"), ("views", "a count of all every 1", "v mean of all every 4 by host"),
            ("clock 30", "done 8"), ("points load{} 19 20", "gone 19 0"), ("points load{} 3 3",),
            ("ask sum of !all from 4 to 12 every 4", "gone 4 1"), ("read v 4 12", "gone 4 1"), ("read v 4 10", "no windows 4 10 4"),
            ("ask sum of all from 0 to 16 every 8", ". 15 2"), ("put load{} 25 -7", "done 9"),
            ("points load{} 20 30", "25 -7"))
        self.check_answers(Desk(RULES), ("views",), ("examine", "no fault"))

    def test_series_with_keys_in_any_order(self):
        desk = desk_behind("put load{zone=x,host=a} 1 6")
        self.check_answers(desk, ("points load{host=a,zone=x} 0 9", "1 6"), ("points load{zone=x,host=a} 0 9", "1 6"))


class CutTest(Asked):
    def test_lines_behind_a_cut(self):
        desk = desk_behind("put a{} 3 5", "view v sum of all every 4", "cut 4", "put a{} 4 6")
        self.assertEqual(desk.do("examine"), [f"log {len(desk.disk().read('log-1')) - 4}"])
        before = desk.disk()
        for line in RIGHT:
            if line.split()[0] not in ("open", "examine"):
                self.assertEqual(desk.do(line), ["cut"], line)
        self.assertEqual(desk.disk(), before)
        self.check_answers(desk, ("open 999", "open 2"), ("points a{} 0 9", "3 5"), ("views", "v sum of all every 4"))

    def test_a_limit_that_is_used_up(self):
        # The frame of this put has ten octets.
        desk = desk_behind("cut 10")
        self.check_answers(
            desk, ("put a{} 3 5", "done 1"), ("points a{} 0 9", "3 5"), ("seal", "cut"), ("points a{} 0 9", "cut"),
            ("clock 0", "cut"), ("cut 100", "cut"), ("examine", "no fault"), ("open", "open 0"), ("points a{} 0 9",))
        desk = desk_behind("cut 0", "cut 0")
        self.check_answers(desk, ("cut 3", "limit 3"), ("seal", "no"), ("sync", "synced 0"), ("sync", "synced 0"),
                           ("put a{} 3 5", "cut"), ("open 1", "open 0"), ("put a{} 3 5", "done 1"))

    def test_refused_deeds_and_questions_at_no_step_left(self):
        desk = desk_behind("clock 30", "view v sum of all every 4", "cut 0")
        self.check_answers(desk, ("put a{} 3 5", "gone 3 0"), ("clock 3", "back 3"), ("read v 20 24",), ("fresh v", "20"),
                           ("seal", "cut"), ("put a{} 3 5", "cut"), ("fresh v", "cut"))

    def test_each_line_that_is_cut(self):
        lines = ["put a{} 3 5", "clock 30", "put a{} 40 5", "view v sum of all every 4"]
        for line in ("put a{} 41 6", "take a{} 40 41", "clock 31", "view w sum of all every 4", "unview v", "sync", "seal",
                     "merge", "merge last", "expire"):
            steps = 0
            while True:
                desk = desk_behind(*lines, "seal", "put a{} 42 7", f"cut {steps}")
                if desk.do(line) != ["cut"]:
                    break
                self.assertEqual(desk.do("sync"), ["cut"])
                for count in (0, 3, 999):
                    other = read_desk(RULES, desk.journal())
                    [answer] = other.do(f"open {count}")
                    self.assertIn(answer, ("open 4", "open 5"))
                    self.assertEqual(other.do("examine"), ["no fault"])
                steps += 1
            self.assertGreater(steps, 0)

    def test_open(self):
        lines = ["put a{} 1 1", "sync", "put a{} 2 1", "put a{} 3 1"]
        for line, done, sealed in (("open", 1, "yes"), ("open 0", 1, "yes"), ("open 9", 1, "no"), ("open 10", 2, "yes"),
                                   ("open 19", 2, "no"), ("open 20", 3, "yes"), ("open 999", 3, "yes")):
            # A log that ends within a frame is sealed by the opening.
            self.check_answers(
                desk_behind(*lines), (line, f"open {done}"), ("seal", sealed), ("open", f"open {done}"),
                ("points a{} 0 9", *[f"{time} 1" for time in range(1, done + 1)]))

    def test_open_lets_a_limit_and_what_is_fresh_go(self):
        desk = desk_behind("view v sum of all every 4", "sync", "read v 0 8", "cut 3")
        self.check_answers(desk, ("fresh v", "0", "4"), ("open", "open 1"), ("fresh v",), ("put a{} 1 1", "done 2"))


class JournalTest(unittest.TestCase):
    def test_all_lines_that_were_answered(self):
        lines = ["clock 30", "put a{} 3 5", "unview v", "cut 0", "sync", "put a{} 35 5", "examine", "open", "views"]
        desk = desk_behind(*lines)
        self.assertEqual(desk.journal(), lines)
        desk.journal().clear()
        self.assertEqual(desk.journal(), lines)

    def test_the_disk_is_a_copy(self):
        desk = desk_behind("put a{} 3 5", "cut 7")
        disk = desk.disk()
        self.assertIs(type(disk), Disk)
        self.assertEqual((disk.left(), disk.synced("log-1"), len(disk.read("log-1"))), (None, 0, 10))
        Store(disk).seal()
        self.assertEqual(desk.disk().names(), ["log-1", "roll-1"])

    def test_read_desk(self):
        lines = ["put a{} 3 5", "sync"]
        for given in (lines, tuple(lines)):
            desk = read_desk(rules=RULES, lines=given)
            self.assertIs(type(desk), Desk)
            self.assertEqual(desk.journal(), lines)
        lines.append("x")
        self.assertEqual(desk.journal(), lines[:2])
        self.assertEqual(read_desk(RULES, []).disk(), Desk(RULES).disk())
        for value in odd_values(list, tuple) + ["sync", "", {"sync": 1}, range(3), b"a"]:
            check_given(self, InvalidLines, lambda told_lines: read_desk(RULES, told_lines), value)
        for line in odd_values(str) + ["sync ", "x", ""]:
            check_given(self, InvalidLine, lambda one: read_desk(RULES, ["sync", one, "y"]), line)

    def test_drawn_lines(self):
        """Answers against a store that does the same, and against a desk that is read from the journal."""
        draw = Draw(177)
        for _ in range(20):
            desk, store_disk = Desk(Rules(ROWS)), Disk()
            store = Store(store_disk, Rules(ROWS))
            for _ in range(60):
                line = self.drawn_line(draw, store.clock())
                before = desk.disk()
                answer = desk.do(line)
                word, _, rest = line.partition(" ")
                if word == "open":
                    store_disk = before.remains({name: int(rest or 0) for name in before.names()})
                    store = Store(store_disk, Rules(ROWS))
                    self.assertEqual(answer, [f"open {store.done()}"])
                else:
                    self.assertEqual(answer, self.answer_of(store, store_disk, word, rest), line)
                self.assertEqual(desk.disk(), store_disk.copied())
            again = read_desk(Rules(ROWS), desk.journal())
            self.assertEqual((again.disk(), again.journal()), (desk.disk(), desk.journal()))
            for _ in range(20):
                line = self.drawn_line(draw, 20)
                self.assertEqual(again.do(line), desk.do(line))
            self.assertEqual((again.disk(), again.journal()), (desk.disk(), desk.journal()))
            self.assertEqual(meaning(again.disk()), meaning(desk.disk()))

    def drawn_line(self, draw, now):
        series, time = draw.one_of(TEXTS), max(0, now - 10 + draw.below(22))
        low = time // 8 * 8
        return draw.one_of([
            f"put {series} {time} {draw.within(-9, 9)}", f"put {series} {time} {draw.within(-9, 9)}",
            f"put {series} {time} {draw.within(-9, 9)}", f"take {series} {time} {time + draw.within(1, 9)}",
            f"clock {max(0, now - 1 + draw.below(6))}", f"view {draw.one_of('vw')} {draw.one_of(VIEWS)}", "unview w", "sync",
            "seal", "merge", "merge last", "expire", f"ask {draw.one_of(VIEWS)}".replace("every", f"from {low} to {low + 16} every"),
            f"read {draw.one_of('vw')} {low} {low + 16}", f"points {series} {time} {time + 20}", "views",
            f"fresh {draw.one_of('vw')}", "open", f"open {draw.below(40)}", "examine"])

    def answer_of(self, store, disk, word, rest):
        """The answer of a line but `open` and `cut`, from the words of the document."""
        items = rest.split()
        calls = {"sync": store.sync, "seal": store.seal, "merge": lambda: store.merge(rest == "last"), "expire": store.expire,
                 "views": store.views, "examine": lambda: examine(disk), "ask": lambda: ask(store, rest),
                 "fresh": lambda: store.fresh(rest), "read": lambda: store.read_view(items[0], int(items[1]), int(items[2])),
                 "points": lambda: store.points(read_series(items[0]), int(items[1]), int(items[2])),
                 "put": lambda: store.do(("put", read_series(items[0]), int(items[1]), int(items[2]))),
                 "take": lambda: store.do(("take", read_series(items[0]), int(items[1]), int(items[2]))),
                 "clock": lambda: store.do(("clock", int(rest))), "unview": lambda: store.do(("unview", rest)),
                 "view": lambda: store.do(("view", items[0], rest.partition(" ")[2]))}
        result = outcome(calls[word])
        if isinstance(result, tuple):
            parts = [str(part) for part in result[1].values()]
            return [" ".join([{"Gone": "gone", "ClockBack": "back", "NoView": "no view", "TooManyViews": "too many views"}[
                result[0]]] + parts)]
        if word in ("put", "take", "clock", "view", "unview"):
            return [f"done {store.done()}"]
        if word == "sync":
            return [f"synced {store.synced()}"]
        if word in ("ask", "read"):
            return told(result)
        if word == "examine":
            return [" ".join(map(str, fault)) for fault in result] or ["no fault"]
        if isinstance(result, bool):
            return ["yes" if result else "no"]
        return [" ".join(map(str, row)) if isinstance(row, tuple) else str(row) for row in result]

    def test_points_against_the_plain_list(self):
        desk = desk_behind("put a{} 3 5", "put a{} 5 -5", "take a{} 3 4", "seal")
        plain = plain_behind(RULES, [("put", read_series("a{}"), 5, -5)])
        wanted = [f"{time} {value}" for time, value in plain.points(read_series("a{}"), 0, 9)]
        self.assertEqual(desk.do("points a{} 0 9"), wanted)


if __name__ == "__main__":
    unittest.main()
