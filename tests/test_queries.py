"""[151] and [152]: the texts of queries."""

import re
import unittest

from everygrain.errors import InvalidQuery
from everygrain.queries import Query
from everygrain.selections import Selection
from tests.support import Draw, check_given, odd_values
from tests.test_selections import plain_parts

FUNCTIONS = ["count", "sum", "least", "greatest", "first", "last", "mean", "delta", "rate"]
NAME = re.compile("[a-z][a-z0-9-]{0,23}")
WORD = re.compile("[a-z0-9][a-z0-9-]{0,23}")
COUNT = re.compile("0|[1-9][0-9]*")


def is_selection(parts):
    """Tell whether parts are a selection, by putting S in the place of what is one until only S is left."""
    if len(parts) > 40:
        return False
    items, at = [], 0
    while at < len(parts):
        three = parts[at:at + 3]
        if len(three) == 3 and three[1] == "=" and NAME.fullmatch(three[0]) and (
                three[2] == "*" or WORD.fullmatch(three[2])):
            items.append("S")
            at += 3
        else:
            items.append("S" if parts[at] == "all" else "<" + parts[at] + ">" if parts[at] not in "!&|()" else parts[at])
            at += 1
    text, before = " ".join(items), None
    while text != before:
        before = text
        for one in ("! S", "( S )", "S & S", "S | S"):
            text = text.replace(one, "S")
    return text == "S"


def plain_windows(parts):
    """The windows of a plain query, or None if parts are none."""
    for at in range(2, len(parts)):
        if parts[at] != "from" or not is_selection(parts[2:at]):
            continue
        head, tail = parts[:2], parts[at:]
        if head[0] not in FUNCTIONS or head[1] != "of" or tail[2:5:2] != ["to", "every"]:
            continue
        counts = tail[1:6:2]
        if len(counts) != 3 or not all(COUNT.fullmatch(count) for count in counts):
            continue
        low, high, step = map(int, counts)
        if step == 0 or low > high or (high - low) % step or high - low > 400 * step:
            continue
        ending = "".join(" " + part for part in tail[6:])
        if re.fullmatch("( by [a-z][a-z0-9-]{0,23})?( fill (zero|before))?( (top|bottom) [1-9][0-9]*)?", ending):
            return low, high, step
    return None


def windows_of(parts):
    """The windows of a query, or None if parts are none."""
    if len(parts) > 120:
        return None
    if parts[:1] != ["("]:
        return plain_windows(parts)
    depth = 0
    for at, part in enumerate(parts):
        depth += (part == "(") - (part == ")")
        if depth == 0:
            break
    if at + 2 >= len(parts) or parts[at + 1] not in ("+", "-", "*", "/") or parts[at + 2] != "(" or parts[-1] != ")":
        return None
    one, other = windows_of(parts[1:at]), windows_of(parts[at + 3:-1])
    return one if one == other else None


def drawn_test(draw):
    if draw.below(4) == 0:
        return ["all"]
    names = ["host", "of", "from", "to", "every", "by", "fill", "top", "all", "name", "k-9"]
    return [draw.one_of(names), "=", draw.one_of(names + ["9", "0", "*", "9-a"])]


def drawn_selection(draw, depth=0):
    way = draw.below(7) if depth < 2 else 0
    if way < 3:
        return drawn_test(draw)
    if way == 3:
        return ["!"] + drawn_selection(draw, depth + 1) if draw.below(2) else (
            ["!", "("] + drawn_selection(draw, depth + 1) + [")"])
    if way == 4:
        return ["("] + drawn_selection(draw, depth + 1) + [")"]
    return drawn_selection(draw, depth + 1) + [draw.one_of("&|")] + drawn_selection(draw, depth + 1)


def drawn_ending(draw):
    parts = []
    if draw.below(2):
        parts += ["by", draw.one_of(["host", "by", "fill", "top", "name", "zero", "all", "from"])]
    if draw.below(2):
        parts += ["fill", draw.one_of(["zero", "before"])]
    if draw.below(2):
        parts += [draw.one_of(["top", "bottom"]), str(draw.within(1, 12))]
    return parts


def drawn_plain(draw, windows):
    low, high, step = windows
    return ([draw.one_of(FUNCTIONS), "of"] + drawn_selection(draw) + ["from", str(low), "to", str(high), "every", str(step)]
            + drawn_ending(draw))


def drawn_query(draw, windows, depth=0):
    if depth == 2 or draw.below(3 - depth):
        return drawn_plain(draw, windows)
    return (["("] + drawn_query(draw, windows, depth + 1) + [")", draw.one_of("+-*/"), "("]
            + drawn_query(draw, windows, depth + 1) + [")"])


def drawn_windows(draw):
    step, low = draw.within(1, 12), draw.below(30)
    return low, low + step * draw.below(9), step


def is_run(part):
    return re.fullmatch("[a-z0-9-]+", part) is not None


def spaced(draw, parts):
    """A text of the parts with blanks where they may stand."""
    text = ""
    for at, part in enumerate(parts):
        least = at > 0 and is_run(part) and is_run(parts[at - 1])
        text += " " * (least + draw.below(3) * draw.below(2)) + part
    return text + " " * draw.below(2)


def plainest(parts):
    """The plainest text, from the parts of a query alone."""
    if parts[0] == "(":
        depth = 0
        for at, part in enumerate(parts):
            depth += (part == "(") - (part == ")")
            if depth == 0:
                break
        return "(" + plainest(parts[1:at]) + ") " + parts[at + 1] + " (" + plainest(parts[at + 3:-1]) + ")"
    for at in range(3, len(parts)):
        if parts[at] == "from" and is_selection(parts[2:at]):
            selection = Selection(" ".join(parts[2:at])).text()
            return " ".join(parts[:2] + [selection] + parts[at:])
    raise AssertionError(parts)


class ReadTest(unittest.TestCase):
    def check(self, text, plain=None):
        query = Query(text)
        self.assertEqual(query.text(), text if plain is None else plain)
        self.assertEqual(Query(query.text()), query)

    def check_none(self, text):
        check_given(self, InvalidQuery, Query, text)

    def test_the_query_of_the_document(self):
        self.check("sum of from=of & all=to from 0 to 8 every 4 by by")

    def test_each_function(self):
        for function in FUNCTIONS:
            self.check(function + " of all from 0 to 8 every 4")
            for other in (function + "s", function[:-1], function.upper(), "all"):
                self.check_none(other + " of all from 0 to 8 every 4")

    def test_selections(self):
        for selection, plain in (
                ("all", "all"), ("host=a", "host=a"), ("host = *", "host=*"), ("(all)", "all"), ("! all", "!all"),
                ("!(host=a)", "!host=a"), ("a=b&c=d", "a=b & c=d"), ("a=b|c=d&!e=f", "a=b | c=d & !e=f"),
                ("(a=b|c=d)&e=f", "(a=b | c=d) & e=f"), ("!(a=b&c=d)", "!(a=b & c=d)"), ("all=all", "all=all"),
                ("from=from", "from=from"), ("to=to & of=of", "to=to & of=of"), ("name=9", "name=9")):
            self.check(f"sum of {selection} from 0 to 8 every 4", f"sum of {plain} from 0 to 8 every 4")
        for selection in ("", "al", "all all", "()", "host", "host=", "=a", "host=a b=c", "all &", "& all", "!", "(all",
                          "all)", "9=a", "host==a", "host=A", "all=", "all !all", "host=-a", "-a=b"):
            self.check_none(f"sum of {selection} from 0 to 8 every 4")

    def test_selections_of_40_and_41_parts(self):
        # A bracket on both sides makes two parts more of a test of three.
        forty = "!" + "(" * 18 + "a=b" + ")" * 18
        self.check(f"sum of {forty} from 0 to 8 every 4", "sum of !a=b from 0 to 8 every 4")
        self.check_none(f"sum of !{forty} from 0 to 8 every 4")
        self.check_none(f"sum of {'!' * 40}all from 0 to 8 every 4")
        self.check(f"sum of {'!' * 39}all from 0 to 8 every 4")
        self.check_none("sum of " + "(" * 110)
        self.check_none("(" * 120)
        # With `all` as the last part it is the part behind that tells whether a test of a key stands there.
        self.check_none(f"sum of {'!' * 39}all=a from 0 to 8 every 4")
        self.check_none(f"sum of {'!' * 38}a=b from 0 to 8 every 4")

    def test_endings(self):
        for key in ("", " by host", " by name", " by by", " by fill", " by top", " by from"):
            for fill in ("", " fill zero", " fill before"):
                for best in ("", " top 1", " bottom 2", " top 400", " bottom 10"):
                    self.check("mean of all from 0 to 8 every 4" + key + fill + best)
        for wrong in (" by", " fill", " top", " bottom", " by 9", " by -", " by Host", " by host by host", " by host host",
                      " fill one", " fill zero fill zero", " fill zero before", " fill zero fill before", " top 0",
                      " top 01", " bottom 0", " top 1 top 1", " top 1 bottom 1", " top -1", " top a", " top 1 1",
                      " fill zero by host", " top 1 by host", " top 1 fill zero", " top1", " byhost", " by host zero",
                      " from 0 to 8 every 4", " every 4", " by " + "k" * 25, " top 1 fill before"):
            self.check_none("mean of all from 0 to 8 every 4" + wrong)
        self.check("mean of all from 0 to 8 every 4 by " + "k" * 24)

    def test_counts(self):
        for low, high, step in ((0, 0, 1), (7, 7, 400), (0, 400, 1), (3, 4003, 10), (999999999999, 999999999999, 9),
                                (10, 20, 5), (0, 10 ** 30, 10 ** 30)):
            text = f"sum of all from {low} to {high} every {step}"
            self.check(text)
            windows = Query(text).windows()
            self.assertEqual(windows, (low, high, step))
            self.assertIs(type(windows), tuple)
            self.assertTrue(all(type(count) is int for count in windows))
        for low, high, step in (
                ("00", "8", "4"), ("0", "08", "4"), ("0", "8", "04"), ("01", "9", "4"), ("0", "8", "0"), ("8", "4", "4"),
                ("0", "6", "4"), ("0", "401", "1"), ("3", "4013", "10"), ("-0", "8", "4"), ("0", "8", "-4"), ("0", "8", "a"),
                ("", "8", "4"), ("0", "", "4"), ("0", "8", ""), ("0", "8-", "4"), ("0", "0", "0"), ("0.0", "8", "4"),
                ("+0", "8", "4"), ("0", "1_0", "5"), ("0", "\u0668", "4"), ("\u00b2", "\u00b2", "1"), ("0", "4 4", "4")):
            self.check_none(f"sum of all from {low} to {high} every {step}")

    def test_joined(self):
        one = "sum of all from 0 to 8 every 4"
        other = "count of host=* from 0 to 8 every 4 by host fill zero top 3"
        for sign in "+-*/":
            self.check(f"({one}) {sign} ({other})")
            self.check(f"({one}){sign}({other})", f"({one}) {sign} ({other})")
            self.check(f" ( {one}) {sign}( {other} ) ", f"({one}) {sign} ({other})")
            self.check(f"(({one}) {sign} ({other})) {sign} ({one})")
            self.check(f"({one}) {sign} (({other}) + ({one}))")
            self.check(f"(({one}) * ({one})) {sign} (({other}) - ({one}))")
        for wrong in (f"({one})", f"(({one}))", f"{one} + {other}", f"({one}) + {other}", f"{one} + ({other})",
                      f"(({one})) + ({other})", f"(({one}) + ({other}))", f"({one}) + ({other}) + ({one})",
                      f"({one}) ({other})", f"({one}) ++ ({other})", f"({one}) -- ({other})", f"({one}) - - ({other})",
                      f"({one}) . ({other})", f"({one} + ({other})", f"({one}) + ({other}", f"({one})) + ({other})",
                      f"({one}) + (({other})", f"() + ({other})", f"({one}) + ()", f"({one}) +", f"+ ({one})", "() + ()",
                      f"({one}) & ({other})", f"({one}) -a ({other})", f"({one}) 0 ({other})", f"({one}) + (all)"):
            self.check_none(wrong)

    def test_joined_queries_of_unlike_windows(self):
        one = "(sum of all from 0 to 8 every 4)"
        for windows in ("from 4 to 8 every 4", "from 0 to 4 every 4", "from 0 to 8 every 2", "from 0 to 8 every 8",
                        "from 0 to 0 every 4"):
            self.check_none(f"{one} + (sum of all {windows})")
            self.check_none(f"({one} + (sum of all {windows})) + {one}")
            self.check_none(f"{one} + ({one} + (sum of all {windows}))")
        self.assertEqual(Query(f"({one} + {one}) / {one}").windows(), (0, 8, 4))

    def test_120_parts_and_121(self):
        one = "sum of all from 0 to 8 every 4"
        # Eight plain queries of nine parts each, and seven signs with four brackets each.
        text = f"({one}) + ({one})"
        for _ in range(6):
            text = f"({text}) - ({one})"
        self.assertEqual(len(plain_parts(text)), 107)
        self.check(text)
        # `!` one by one, and then brackets within brackets, which make 120 and 121 parts.
        self.check(text.replace("all", "!" * 13 + "all", 1))
        self.check_none(text.replace("all", "!" * 14 + "all", 1))
        longer = text.replace("all", "((((((!all))))))", 1)
        self.assertEqual(len(plain_parts(longer)), 120)
        self.check(longer, text.replace("all", "!all", 1))
        self.check_none(longer.replace("!all", "!!all"))
        self.check_none(f"({text}) * ({one})")

    def test_other_values_and_other_signs(self):
        for value in odd_values(str):
            self.check_none(value)
        for value in (b"sum of all from 0 to 8 every 4", ["sum of all from 0 to 8 every 4"],
                      Query("sum of all from 0 to 8 every 4"), ""):
            self.check_none(value)
        for text in ("sum\tof all from 0 to 8 every 4", "sum of all from 0 to 8 every 4\n", "Sum of all from 0 to 8 every 4",
                     "sum of all from 0 to 8 every 4.", "sumof all from 0 to 8 every 4", "sum of allfrom 0 to 8 every 4",
                     "sum of all from0 to 8 every 4", "sum  of all from 0 to 8", "of all from 0 to 8 every 4",
                     "sum all from 0 to 8 every 4", "sum of all from 0 every 4", "sum of all to 8 from 0 every 4",
                     "sum of all every 4", "sum of all every 4 from 0 to 8", "sum", "of", "all", "sum of",
                     "sum\u00a0of all from 0 to 8 every 4"):
            self.check_none(text)

    def test_drawn_queries_and_texts_near_them(self):
        draw = Draw(151)
        more = ["(", ")", "!", "&", "|", "=", "*", "+", "/", "-", "all", "of", "from", "to", "every", "by", "fill", "zero",
                "top", "0", "1", "4", "8", "host", "sum", "before", "bottom", "01"]
        right = wrong = 0
        for _ in range(150):
            parts = drawn_query(draw, drawn_windows(draw))
            if len(parts) <= 120:
                self.assertIsNotNone(windows_of(parts))
            for turn in range(25):
                near = list(parts)
                at, to = draw.below(len(near)), draw.below(len(near))
                if turn % 5 == 1:
                    del near[at]
                elif turn % 5 == 2:
                    near.insert(at, near[at])
                elif turn % 5 == 3:
                    near[at], near[to] = near[to], near[at]
                elif turn % 5 == 4:
                    near[at] = draw.one_of(more)
                text = spaced(draw, near)
                windows = windows_of(near)
                if windows is None:
                    wrong += 1
                    self.check_none(text)
                else:
                    right += 1
                    self.check(text, plainest(near))
                    self.assertEqual(Query(text).windows(), windows)
        self.assertGreater(min(right, wrong), 900)

    def test_texts_near_a_query_by_one_sign(self):
        draw = Draw(152)
        signs = "abfz019-=!&|()*+/ ."
        for text in ("sum of a=b & !all from 0 to 8 every 4 by by top 1",
                     "(last of all from 2 to 4 every 2) - (rate of all from 2 to 4 every 2 fill zero)"):
            for at in range(len(text) + 1):
                for near in (text[:at] + text[at + 1:], text[:at] + draw.one_of(signs) + text[at:],
                             text[:at] + draw.one_of(signs) + text[at + 1:]):
                    parts = plain_parts(near)
                    if windows_of(parts) is None:
                        self.check_none(near)
                    else:
                        self.check(near, plainest(parts))


class QueryTest(unittest.TestCase):
    def test_equal(self):
        one = Query("sum of all & (host=a) from 0 to 8 every 4 by host")
        self.assertEqual(one, Query(" sum of all&host=a from 0 to 8 every 4 by host "))
        for other in ("sum of host=a & all from 0 to 8 every 4 by host", "sum of all & host=a from 0 to 8 every 4",
                      "sum of all & host=a from 0 to 8 every 8 by host", "sum of all & host=a from 4 to 8 every 4 by host",
                      "count of all & host=a from 0 to 8 every 4 by host",
                      "sum of all & host=a from 0 to 8 every 4 by host fill zero",
                      "sum of all & host=a from 0 to 8 every 4 by host top 1"):
            self.assertNotEqual(one, Query(other))
            self.assertNotEqual(Query(f"({one.text()}) + ({one.text()})"), one)
        self.assertFalse(one == Query(one.text() + " top 2"))
        for value in odd_values() + [one.text(), Selection("all")]:
            self.assertFalse(one == value)
            self.assertTrue(one != value)

    def test_the_text_may_be_passed_by_name(self):
        self.assertEqual(Query(text="sum of all from 0 to 8 every 4").windows(), (0, 8, 4))


if __name__ == "__main__":
    unittest.main()
