"""[141] to [143] and [145]: selections."""

import ast
import itertools
import unittest

from everygrain.errors import InvalidSelection, InvalidSeries, InvalidSeriesList
from everygrain.parts import PartReader, parts_of
from everygrain.selections import Selection, chosen, has, parting
from everygrain.series import Series, in_order, read_series
from tests.support import Draw, check_error, check_examples, check_given, odd_values

TEXTS = ["load{host=a,zone=x}", "load{host=a}", "load{host=b}", "load{}", "heat{zone=x}", "heat{host=a,zone=y}", "a{all=1}",
         "name{of=by}", "heat{}", "up{host=9,zone=9}", "a{all=x,host=c}",
         "up{host=all}"]
SOME = [read_series(text) for text in TEXTS]
LONG = "k" * 24


class ExamplesTest(unittest.TestCase):
    def test_examples_of_the_interface(self):
        check_examples(self, r"""
>>> from everygrain.selections import Selection, chosen, has, parting
>>> from everygrain.series import Series
>>> one, two, three = Series("load", {"host": "a", "zone": "x"}), Series("load", {"host": "b"}), Series("heat")
>>> selection = Selection(" !( (host=a|name=heat) )&host = * ")
>>> [selection.text(), selection == Selection("!(host=a | name=heat) & (host=*)")]
['!(host=a | name=heat) & host=*', True]
>>> [has(selection, one), has(selection, two), has(selection, three)]
[False, True, False]
>>> chosen(Selection("!zone=x"), [two, one, three, two]) == [three, two]
True
>>> part = parting(Selection("host=*"), Selection("host=a | !all"))
>>> [has(Selection("host=*"), part), has(Selection("host=a"), part), parting(Selection("host=a"), Selection("host=* & host=a"))]
[True, False, None]
>>> Selection("name=*|=a")
raises InvalidSelection('name=*|=a')
""")


def plain_parts(text):
    """The parts of a text, as plainly as can be."""
    parts, inside = [], False
    for sign in text:
        if sign in "abcdefghijklmnopqrstuvwxyz0123456789-":
            if inside:
                parts[-1] += sign
            else:
                parts.append(sign)
            inside = True
            continue
        inside = False
        if sign != " ":
            parts.append(sign)
    return parts


class PartsTest(unittest.TestCase):
    def test_parts(self):
        for text, parts in {"": [], "   ": [], "a": ["a"], " a ": ["a"], "a b": ["a", "b"], "a  b": ["a", "b"],
                            "a=b": ["a", "=", "b"], "-9a- -": ["-9a-", "-"], "==": ["=", "="], "aB": ["a", "B"],
                            "AB": ["A", "B"], "a\tb": ["a", "\t", "b"], "a_b": ["a", "_", "b"], "\u00e4": ["\u00e4"],
                            "a\u0661": ["a", "\u0661"], "!(a)": ["!", "(", "a", ")"], "a\nb": ["a", "\n", "b"]}.items():
            self.assertEqual(parts_of(text), parts)
            self.assertEqual(plain_parts(text), parts)
        reader = PartReader(["a", "="])
        self.assertEqual([reader.ahead(), reader.read(), reader.ahead(), reader.read(), reader.ahead(), reader.read()],
                         ["a", "a", "=", "=", None, None])


def normal(node):
    """A tree of Python's own, with and within and, and or within or, in one row."""
    if isinstance(node, ast.BoolOp):
        kind, items = type(node.op).__name__, []
        for value in node.values:
            told = normal(value)
            items.extend(told[1:] if told[0] == kind else [told])
        return [kind] + items
    if isinstance(node, ast.UnaryOp):
        return ["Not", normal(node.operand)]
    return ["Name", node.id]


def pythons(parts, tests):
    """The parts of a selection as an expression of Python; each test becomes a name."""
    words, at = [], 0
    while at < len(parts):
        if parts[at] in ("!", "&", "|", "(", ")"):
            words.append({"!": "not", "&": "and", "|": "or"}.get(parts[at], parts[at]))
            at += 1
        elif parts[at] == "all" and parts[at + 1:at + 2] != ["="]:
            words.append(f"t{tests.setdefault(('all',), len(tests))}")
            at += 1
        else:
            words.append(f"t{tests.setdefault(tuple(parts[at:at + 3]), len(tests))}")
            at += 3
    return " ".join(words)


def plainly_has(text, series):
    """Whether a selection means a series, as Python's own expressions tell it."""
    tests = {}
    code = pythons(plain_parts(text), tests)
    words = {**dict(series.tags), "name": series.name}
    names = {}
    for test, number in tests.items():
        word = words.get(test[0])
        names[f"t{number}"] = test == ("all",) or word is not None and test[2] in ("*", word)
    return eval(code, names)


def pair_ends(parts):
    """The places of each pair of brackets."""
    begun, pairs = [], []
    for at, part in enumerate(parts):
        if part == "(":
            begun.append(at)
        elif part == ")":
            pairs.append((begun.pop(), at))
    return pairs


def plainly_plainest(text):
    """The plainest text: each pair of brackets goes if all means the same without it."""
    parts = plain_parts(text)
    wanted = normal(ast.parse(pythons(parts, {}), mode="eval").body)
    at = 0
    while at < len(pair_ends(parts)):
        low, high = pair_ends(parts)[at]
        fewer = parts[:low] + parts[low + 1:high] + parts[high + 1:]
        if normal(ast.parse(pythons(fewer, {}), mode="eval").body) == wanted:
            parts, at = fewer, 0
        else:
            at += 1
    return "".join(f" {part} " if part in ("&", "|") else part for part in parts)


def drawn_test(draw):
    key = draw.one_of(["host", "zone", "name", "all", "of"])
    return draw.one_of(["all", f"{key}=*"] + [f"{key}={word}" for word in ("a", "x", "load", "9", "by", "all")])


def drawn_text(draw, depth):
    """A selection with brackets and blanks, as they come."""
    kind = draw.below(6) if depth else 0
    if kind == 0:
        text = drawn_test(draw)
    elif kind == 1:
        text = "!" + draw.one_of(["", " "]) + drawn_text(draw, depth - 1)
    elif kind == 2:
        text = "!(" + drawn_text(draw, depth - 1) + ")"
    else:
        sign = draw.one_of(["&", "|", " & ", " |"])
        text = sign.join(drawn_text(draw, depth - 1) for _ in range(draw.within(2, 3)))
    return draw.one_of([text, text, f"({text})", f"( {text} )", f"(({text}))", f" {text} "])


class SelectionTest(unittest.TestCase):
    def test_the_example_of_the_document(self):
        text = "!((host=a|all))&(zone=x&up=*)"
        self.assertEqual(Selection(text).text(), "!(host=a | all) & zone=x & up=*")
        self.assertEqual(plainly_plainest(text), "!(host=a | all) & zone=x & up=*")

    def test_plainest_texts(self):
        for text, plainest in {
                "all": "all", " all ": "all", "(all)": "all", "((all))": "all", "!all": "!all", "! all": "!all",
                "!!all": "!!all", "!(!all)": "!!all", "!(!(!(all)))": "!!!all", "host=a": "host=a", " host = a ": "host=a",
                "host=*": "host=*", "host = *": "host=*", "all=all": "all=all", "all=*": "all=*", "all&all": "all & all",
                "all=all&all": "all=all & all", "(host=a)": "host=a", "a=1&b=2": "a=1 & b=2", "a=1|b=2": "a=1 | b=2",
                "(a=1&b=2)&c=3": "a=1 & b=2 & c=3", "a=1&(b=2&c=3)": "a=1 & b=2 & c=3", "a=1|(b=2|c=3)": "a=1 | b=2 | c=3",
                "a=1&((b=2)&(c=3))": "a=1 & b=2 & c=3", "(a=1&b=2)|c=3": "a=1 & b=2 | c=3", "a=1|(b=2&c=3)": "a=1 | b=2 & c=3",
                "(a=1|b=2)&c=3": "(a=1 | b=2) & c=3", "((a=1|b=2))&((c=3|d=4))": "(a=1 | b=2) & (c=3 | d=4)",
                "a=1&(b=2|c=3)": "a=1 & (b=2 | c=3)", "a=1|(b=2&(c=3|d=4))": "a=1 | b=2 & (c=3 | d=4)",
                "!(a=1)": "!a=1", "!(a=1&b=2)": "!(a=1 & b=2)", "!((a=1|b=2))": "!(a=1 | b=2)", "(!a=1)&b=2": "!a=1 & b=2",
                "!(!(a=1&b=2))": "!!(a=1 & b=2)", "(!(a=1|b=2))|c=3": "!(a=1 | b=2) | c=3", "!a=1&b=2": "!a=1 & b=2",
                "a=1|b=2|(c=3&(d=4&(e=5|f=6)))": "a=1 | b=2 | c=3 & d=4 & (e=5 | f=6)", "name=load": "name=load",
                "name=9": "name=9", "name=*": "name=*", "a=1&a=1": "a=1 & a=1", "b=2&a=1": "b=2 & a=1",
                f"{LONG}={LONG}": f"{LONG}={LONG}", "a-=9-": "a-=9-", "from=to & of=by": "from=to & of=by",
                "(a=1|b=2|(c=3))&(all)": "(a=1 | b=2 | c=3) & all", "all | all=1": "all | all=1"}.items():
            self.assertEqual(Selection(text).text(), plainest)
            self.assertEqual(plainly_plainest(text), plainest)
            self.assertEqual(Selection(plainest).text(), plainest)
            self.assertTrue(Selection(text) == Selection(plainest))
        self.assertEqual(Selection(text="all").text(), "all")

    def test_ranks(self):
        """Each row of three of the signs, with and without brackets."""
        tests = ("host=a", "zone=x", "name=load", "of=*")
        for signs in itertools.product("&|", repeat=3):
            for nots in itertools.product(("", "!"), repeat=4):
                items = [sign + test for sign, test in zip(nots, tests)]
                text = items[0] + "".join(sign + item for sign, item in zip(signs, items[1:]))
                self.check_text(text)
                for low, high in itertools.combinations(range(4), 2):
                    parts = list(items)
                    parts[low] = nots[low] + "(" + tests[low]
                    parts[high] += ")"
                    self.check_text(parts[0] + "".join(sign + item for sign, item in zip(signs, parts[1:])))

    def check_text(self, text):
        selection = Selection(text)
        plainest = plainly_plainest(text)
        self.assertEqual(selection.text(), plainest)
        self.assertTrue(selection == Selection(plainest))
        self.assertEqual(Selection(plainest).text(), plainest)
        for series in SOME:
            self.assertIs(has(selection, series), plainly_has(text, series), (text, series.text()))

    def test_drawn_selections(self):
        draw = Draw(141)
        read = 0
        while read < 400:
            text = drawn_text(draw, 3)
            if len(plain_parts(text)) > 40:
                check_given(self, InvalidSelection, Selection, text)
                continue
            read += 1
            self.check_text(text)

    def test_blanks_anywhere(self):
        for text in ("!(host=a|all)&zone=x", "all=all|all", "name=*", "a-b=c-d & !(e=9)"):
            wanted = Selection(text).text()
            parts = plain_parts(text)
            for blank in (" ", "   "):
                self.assertEqual(Selection(blank.join(parts)).text(), wanted)
                self.assertEqual(Selection(blank + blank.join(parts) + blank).text(), wanted)
        # A blank parts two runs.
        for text in ("ho st=a", "host=a b", "al l", "host=a zone=x", "all all"):
            check_given(self, InvalidSelection, Selection, text)

    def test_texts_of_40_and_41_parts(self):
        for text in ("&".join(["a=1"] * 9) + "&!a=1", "!" * 39 + "all", "(" * 19 + "!all" + ")" * 19, "!" * 37 + "a=1",
                     "|".join(["a=1"] * 9) + "|!!!all", "(((a=1|b=2))&c=3)" + "|!all" * 7 + "|all"):
            self.assertEqual(len(plain_parts(text)), 40)
            self.check_text(text)
            self.check_text("  " + " ".join(plain_parts(text)) + "  ")
            check_given(self, InvalidSelection, Selection, "!" + text)
            check_given(self, InvalidSelection, Selection, "(" + text + ")")
        self.assertEqual(Selection("(" * 19 + "!all" + ")" * 19).text(), "!all")
        for text in ("(" * 20 + "all" + ")" * 20, "!" * 40 + "all", "!" * 400 + "all", "(" * 5000 + "all" + ")" * 5000,
                     "&".join(["a=1"] * 10) + "&!!a=1", "all" + "|all" * 20):
            check_given(self, InvalidSelection, Selection, text)
        self.assertEqual(Selection("all" + "|all" * 19).text(), " | ".join(["all"] * 20))
        longest = "&".join([f"{LONG}={LONG}"] * 8)
        self.assertEqual(Selection(longest).text(), longest.replace("&", " & "))

    def test_texts_near_a_selection(self):
        wrong = ["", " ", "al", "alll", "All", "a", "host", "host=", "=a", "=", "host==a", "host=a=b", "host=a,", "9=a", "-a=a",
                 "host=-a", "host=A", "Host=a", "host=**", "host=*a", "host=a*", "host=a *", "*=a", "*", "host", "host:a",
                 "host!=a", "host=!a", "!", "!!", "!host", "(", ")", "()", "(all", "all)", "((all)", "(all))", ")all(", "all(",
                 "(all)(all)", "all all", "all!", "all !all", "&", "|", "all&", "&all", "all|", "|all", "all&&all", "all||all",
                 "all&|all", "all & ! ", "host=(a)", "(host)=a", "host(=)a", "host=a&", "host=a zone=x", "host=ab c",
                 "k" * 25 + "=a", "host=" + "w" * 25, "all=", "=all", "all==all", "all=!", "all=(", "host=a\n", "\thost=a",
                 "host\t=a", "host=\u00e4", "h\u00f6st=a", "host=a;", "host=a#", "host=\"a\"", "host='a'", "host=a_b",
                 "host=a.b", "host=a%", "host={a}", "load{}", "not all", "all and all", "host=a\u0661", "name=*|=a", "!=a",
                 "host=a|!", "(host=a|)", "(|host=a)", "host=a&(zone=x|)", "all,all", "all+all", "host=*=*"]
        for text in wrong:
            check_given(self, InvalidSelection, Selection, text)
            check_given(self, InvalidSelection, Selection, text + "&")
        for value in odd_values(str) + [["all"], b"all", ("all",), Selection("all"), Selection]:
            check_given(self, InvalidSelection, Selection, value)

    def test_equal(self):
        for texts in (["host=a&zone=x", "(host=a) & zone=x", "((host=a&zone=x))"], ["!(!all)", "!!all"],
                      ["host=a|zone=x|all", "host=a|(zone=x|all)", "(host=a|zone=x)|all"]):
            for one, other in itertools.product(texts, repeat=2):
                self.assertTrue(Selection(one) == Selection(other))
                self.assertFalse(Selection(one) != Selection(other))
        unlike = ["all", "!all", "!!all", "host=a", "host=b", "host=*", "zone=a", "host=a & zone=a", "zone=a & host=a",
                  "host=a | zone=a", "!host=a & zone=a", "!(host=a & zone=a)", "all & all", "all | all", "all=*"]
        for at, one in enumerate(unlike):
            for place, other in enumerate(unlike):
                self.assertEqual(Selection(one) == Selection(other), at == place)
        for other in (None, "all", 3, ("all",), Series("all")):
            self.assertFalse(Selection("all") == other)
            self.assertTrue(Selection("all") != other)


class HasTest(unittest.TestCase):
    def test_tests(self):
        for text, wanted in {"all": TEXTS, "!all": [], "host=a": [TEXTS[0], TEXTS[1], TEXTS[5]], "name=9": [],
                             "host=9": [TEXTS[9]], "name=load": TEXTS[:4], "name=*": TEXTS, "!name=*": [],
                             "all=*": [TEXTS[6], TEXTS[10]], "all=x": [TEXTS[10]], "host=all": [TEXTS[11]], "rack=*": [], "!rack=r": TEXTS,
                             "zone=*": [TEXTS[0], TEXTS[4], TEXTS[5], TEXTS[9]], "name=name": [TEXTS[7]],
                             "!host=* & !zone=*": [TEXTS[3], TEXTS[6], TEXTS[7], TEXTS[8]], "of=by": [TEXTS[7]],
                             "load=*": [], "host=host": []}.items():
            self.assertEqual([one.text() for one in SOME if has(Selection(text), one)], wanted, text)
        self.assertIs(has(series=SOME[0], selection=Selection("all")), True)
        self.assertIs(has(Selection("!all"), SOME[0]), False)

    def test_chosen(self):
        for text in ("all", "!all", "host=a", "zone=* | name=load", "!(host=a | zone=x)"):
            selection = Selection(text)
            for given in (SOME, tuple(SOME), SOME + SOME, SOME[::-1], []):
                told = chosen(selection, given)
                self.assertIs(type(told), list)
                wanted = [one for one in in_order(given) if plainly_has(text, one)]
                self.assertEqual([one.text() for one in told], [one.text() for one in wanted])
                for one in told:
                    self.assertTrue(any(one is other for other in given))
        given = [SOME[1], SOME[0]]
        chosen(series=given, selection=Selection("all")).clear()
        self.assertEqual([one.text() for one in given], [TEXTS[1], TEXTS[0]])

    def test_the_order_of_errors(self):
        selection = Selection("all")
        for value in odd_values() + ["all", Selection, ["all"], [selection]]:
            for series in (SOME[0], None):
                check_error(self, InvalidSelection(value), has, value, series)
            for series in (SOME, None, [None]):
                check_error(self, InvalidSelection(value), chosen, value, series)
            for other in (selection, None):
                check_error(self, InvalidSelection(value), parting, value, other)
            check_error(self, InvalidSelection(value), parting, selection, value)
        check_error(self, InvalidSelection("a"), parting, "a", "b")
        for value in odd_values() + ["load{}", [SOME[0]], Series]:
            check_error(self, InvalidSeries(value), has, selection, value)
        for value in odd_values(list, tuple) + [SOME[0], [SOME[0], None], ["load{}"], [SOME], {TEXTS[0]: SOME[0]}]:
            check_error(self, InvalidSeriesList(value), chosen, selection, value)


def tried(one, other):
    """Whether any series parts two texts, by trying all those that [145] tells of."""
    words = {"name": ["z9"]}
    for text in (one, other):
        parts = plain_parts(text)
        for at, part in enumerate(parts):
            if part != "=":
                continue
            key, word = parts[at - 1], parts[at + 1]
            words.setdefault(key, [None, "z9"])
            if word != "*" and word not in words[key] and not (key == "name" and word == "9"):
                words[key].append(word)
    keys = sorted(words)
    for row in itertools.product(*[words[key] for key in keys]):
        tags = {key: word for key, word in zip(keys, row) if word is not None}
        name = tags.pop("name")
        if len(tags) <= 6 and plainly_has(one, Series(name, tags)) != plainly_has(other, Series(name, tags)):
            return True
    return False


class PartingTest(unittest.TestCase):
    def check_parting(self, one, other, wanted=None):
        if wanted is None:
            wanted = tried(one, other)
        for left, right in ((one, other), (other, one)):
            told = parting(Selection(left), Selection(right))
            self.assertIs(told is not None, wanted, (left, right))
            if told is not None:
                self.assertIs(type(told), Series)
                self.assertLessEqual(len(told.tags), 6)
                self.assertIsNot(plainly_has(left, told), plainly_has(right, told))
                self.assertTrue(parting(Selection(left), Selection(right)) == told)

    def test_that_mean_the_same_though_their_texts_differ(self):
        for one, other in (("all", "name=*"), ("!all", "name=9"), ("host=a", "host=* & host=a"), ("all", "!!all"),
                           ("host=a & zone=x", "zone=x & host=a"), ("!(host=a & zone=x)", "!host=a | !zone=x"),
                           ("host=a | !host=a", "all"), ("host=a & host=b", "!all"), ("name=a & name=b", "!name=*"),
                           ("host=a | host=*", "host=*"), ("host=a & (zone=x | rack=r)", "host=a & zone=x | host=a & rack=r"),
                           ("host=a", "host=a"), ("all", "all"), ("!host=*", "!host=* & !host=a"),
                           ("name=9 | host=a", "host=a"), ("host=a", "host=a & !host=b")):
            self.check_parting(one, other, False)

    def test_that_mean_unlike_series(self):
        for one, other in (("all", "!all"), ("all", "host=*"), ("host=a", "host=b"), ("host=a", "zone=a"), ("all", "name=load"),
                           ("!all", "name=load"), ("host=a & zone=x", "host=a"), ("name=a", "name=b"), ("host=9", "!all"),
                           ("name=a", "host=a"), ("host=*", "zone=*"), ("all=a", "all"), ("!host=a", "!host=b"),
                           ("host=all", "all"), ("host=all", "!all"), ("host=all", "all=all")):
            self.check_parting(one, other, True)

    def test_that_differ_only_at_a_word_that_no_test_has(self):
        for one, other in (("host=*", "host=a"), ("host=*", "host=a | host=aa | host=aaa"), ("all", "name=a | name=aa"),
                           ("host=*", "host=a | host=b | host=c | host=d | host=e | host=f | host=g"),
                           ("all", "name=a | name=aa | name=aaa | name=aaaa | name=b | name=c | name=9"),
                           ("!host=*", "!(host=* & !host=a)"), ("host=* & name=a", "host=a & name=a")):
            self.check_parting(one, other)
        self.assertTrue(tried("host=*", "host=a | host=aa | host=aaa"))
        # Only series without the tag, of a name that is not tested, part these.
        self.check_parting("host=* | name=a | name=aa", "all", True)

    def test_six_tags_are_the_bound(self):
        keys = "abcdefgh"
        for many in range(1, 8):
            text = " & ".join(f"{key}=*" for key in keys[:many])
            self.check_parting(text, "!all", many <= 6)
            text = " & ".join(f"{key}=1" for key in keys[:many])
            self.check_parting(text, "!all", many <= 6)
            self.check_parting("!(" + text + ")", "all", many <= 6)
        self.check_parting("a=1 & b=1 & c=1 & d=1 & e=1 & f=1 & name=load", "!all", True)
        self.check_parting("a=1 & b=1 & c=1 & d=1 & e=1 & f=1 & g=1 & name=load", "name=9", False)
        self.check_parting("!(a=* & b=* & c=* & d=* & e=* & f=* & g=*)", "all", False)
        # A series that parts these has no more tags than those of the one.
        self.check_parting("a=* & b=* & c=* & d=* & e=* & f=*", "g=* & !g=*", True)

    def test_eight_tests_that_mean_the_same(self):
        self.check_parting("a=1 & b=2 & c=3 & d=4", "d=4 & c=3 & b=2 & a=1", False)
        self.check_parting("a=1 & !a=1", "b=1 & c=1 & d=1 & !(e=1 | f=1) & !b=1", False)
        self.check_parting("a=1 & b=1 & c=1 & d=1 & e=1 & f=1 & g=1 & h=1", "!all", False)
        self.check_parting("a=1 | b=1 | c=1 | d=1 | e=1 | f=1 | g=1 | h=1", "all", True)

    def test_drawn_selections(self):
        draw = Draw(145)
        found = {True: 0, False: 0}
        while min(found.values()) < 60:
            one, other = drawn_text(draw, 2), drawn_text(draw, draw.below(3))
            tests = plain_parts(one + "&" + other)
            if len(tests) > 40 or tests.count("=") > 6:
                continue
            wanted = tried(one, other)
            found[wanted] += 1
            self.check_parting(one, other, wanted)

    def test_equal_arguments_an_equal_answer(self):
        for one, same in (("host=a|(zone=x)", "host=a | zone=x"), ("!(!all)", "!!all")):
            told = parting(Selection(one), Selection("rack=r"))
            self.assertTrue(told == parting(one=Selection(same), other=Selection("(rack=r)")))
        self.assertIsNone(parting(other=Selection("all"), one=Selection("all")))


if __name__ == "__main__":
    unittest.main()
