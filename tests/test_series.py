"""[41] to [44]: series."""

import itertools
import unittest

from everygrain.errors import InvalidName, InvalidSeries, InvalidSeriesList, InvalidTags, InvalidText
from everygrain.series import Series, grouped, in_order, read_series, word_of
from tests.support import check_error, check_examples, check_given, odd_values

SIX = {"f": "6", "e": "5", "d": "4", "c": "3", "b": "2", "a": "1"}


class ExamplesTest(unittest.TestCase):
    def test_examples_of_the_interface(self):
        check_examples(self, r"""
>>> from everygrain.series import Series, grouped, in_order, read_series, word_of
>>> one, two, three = Series("load", {"zone": "x", "host": "a"}), Series("load2", [("host", "9")]), Series("load")
>>> [one.name, one.tags, one.text(), three.text(), read_series("load{zone=x,host=a}") == one]
['load', (('host', 'a'), ('zone', 'x')), 'load{host=a,zone=x}', 'load{}', True]
>>> order = in_order((three, one, two, read_series("load{}")))
>>> [len(order), order[0].text(), order[1] == one, order[2] == three, word_of(two, "host"), word_of(two, "zone"), word_of(two, "name")]
[3, 'load2{host=9}', True, True, '9', None, 'load2']
>>> groups = grouped([one, two, three], "host")
>>> [groups[0][0], groups[0][1][0].text(), groups[1][0], groups[2][0], len(groups)]
[None, 'load{}', '9', 'a', 3]
>>> read_series("load{host=a,host=b}")
raises InvalidText('load{host=a,host=b}')
""")


class SeriesTest(unittest.TestCase):
    def test_names(self):
        for name in ("a", "a" * 24, "a-9", "name", "z-"):
            self.assertEqual((Series(name).name, Series(name).tags, Series(name).text()), (name, (), name + "{}"))
        for name in odd_values(str) + ["", "a" * 25, "9", "-a", "A", "a b", "a_", "a{}", "\u00e4"]:
            check_given(self, InvalidName, Series, name)
            # The name is asked ahead of the tags.
            check_error(self, InvalidName(name), Series, name, None)

    def test_tags_of_all_forms_in_any_order(self):
        wanted = (("a", "1"), ("b", "x-"), ("c", "c"))
        for pairs in itertools.permutations(wanted):
            for tags in (dict(pairs), list(pairs), tuple(pairs)):
                series = Series("load", tags)
                self.assertEqual(series.tags, wanted)
                self.assertIs(type(series.tags), tuple)
                self.assertEqual(series.text(), "load{a=1,b=x-,c=c}")
                self.assertTrue(series == Series("load", wanted))
        for tags in ({}, [], ()):
            self.assertEqual(Series("load", tags).tags, ())
        self.assertEqual(Series(tags={"a-": "9"}, name="load").text(), "load{a-=9}")

    def test_as_many_tags_as_can_be(self):
        for tags in (SIX, list(SIX.items()), tuple(SIX.items())):
            self.assertEqual(Series("s", tags).text(), "s{a=1,b=2,c=3,d=4,e=5,f=6}")
        seven = {**SIX, "g": "7"}
        for tags in (seven, list(seven.items())):
            check_error(self, InvalidTags(tags), Series, "s", tags)
        longest = Series("n" * 24, {"k" * 23 + sign: "w" * 24 for sign in "abcdef"})
        self.assertEqual(len(longest.text()), 325)
        self.assertTrue(read_series(longest.text()) == longest)

    def test_no_tags(self):
        wrong = odd_values(list, tuple, dict) + [
            [("a", "1"), ("a", "2")], [("a", "1"), ("a", "1")], {"name": "a"}, [("name", "a")], {"a": ""}, {"": "a"},
            {"a": "-a"}, {"9": "a"}, {"a" * 25: "a"}, {"a": "a" * 25}, {"A": "a"}, {"a": "A"}, {"a": 1}, {1: "a"},
            {"a": None}, {None: "a"}, [["a", "1"]], (["a", "1"],), ["ab"], [("a",)], [("a", "1", "2")], [()], [None],
            [(["a"], "1")], [("a", ["1"])], [{"a": "1"}], {("a", "1")}, {"a b": "1"}, {"a": "x y"}, {True: "a"}]
        for tags in wrong:
            check_error(self, InvalidTags(tags), Series, "load", tags)
        self.assertEqual(Series("name", {"names": "name"}).text(), "name{names=name}")

    def test_equal(self):
        one = Series("load", {"host": "a", "zone": "x"})
        self.assertTrue(one == Series("load", [("zone", "x"), ("host", "a")]))
        self.assertFalse(one != Series("load", (("host", "a"), ("zone", "x"))))
        for other in (Series("load"), Series("heat", one.tags), Series("load", {"host": "a"}), one.text(), one.tags,
                      Series("load", {"host": "a", "zone": "y"}), Series("load", {"host": "a", "zon": "x"}), None):
            self.assertFalse(one == other)
            self.assertTrue(one != other)

    def test_what_is_handed_in_is_not_kept(self):
        for tags in ({"b": "2", "a": "1"}, [("b", "2"), ("a", "1")]):
            series, before = Series("load", tags), type(tags)(tags)
            self.assertEqual(tags, before)
            tags.clear()
            self.assertEqual((series.tags, series.text()), ((("a", "1"), ("b", "2")), "load{a=1,b=2}"))


class TextsTest(unittest.TestCase):
    def test_read_in_any_order(self):
        wanted = Series("load", {"a": "1", "b": "2", "c": "3"})
        for items in itertools.permutations(["a=1", "b=2", "c=3"]):
            self.assertTrue(read_series("load{" + ",".join(items) + "}") == wanted)
        self.assertTrue(read_series(text="load{}") == Series("load"))
        self.assertTrue(read_series("s{f=6,e=5,d=4,c=3,b=2,a=1}") == Series("s", SIX))

    def test_texts_near_the_text_of_a_series(self):
        wrong = ["", "{}", "load", "load{", "load}", "{load}", "load{}}", "load{{}", "load{{}}", "load{} ", " load{}",
                 "load {}", "load{ }", "load{,}", "load{a=1,}", "load{,a=1}", "load{a=1,,b=2}", "load{a}", "load{a=}",
                 "load{=1}", "load{=}", "load{a==1}", "load{a=1=2}", "load{a=1 }", "load{ a=1}", "load{a =1}",
                 "load{a=1, b=2}", "load{a=1;b=2}", "load{a=1}{}", "load{a=1}{b=2}", "load{}load{}", "load{a={}}",
                 "Load{}", "9{}", "-a{}", "load{9=a}", "load{-a=a}", "load{a=-a}", "load{a=A}", "load{A=a}",
                 "load{a=1,a=2}", "load{a=1,a=1}", "load{a=1,b=2,a=1}", "load{name=a}", "load{a=1,name=load}",
                 "load{a=1,b=2,c=3,d=4,e=5,f=6,g=7}", "a" * 25 + "{}", "a{" + "b" * 25 + "=1}", "a{b=" + "c" * 25 + "}",
                 "load{}\n", "load(a=1)", "load{a:1}", "load{a=1\n}", "load=1", "load,a=1}", "=,{}"]
        for text in wrong + odd_values(str) + [["load{}"], Series("load")]:
            check_given(self, InvalidText, read_series, text)

    def test_texts_and_series_are_equal_alike(self):
        series = [Series(name, tags) for name in ("a", "a1", "b") for tags in (
            (), {"x": "1"}, {"x": "2"}, {"y": "1"}, {"x": "1", "y": "1"}, {"x1": "1"}, {"x": "11"})]
        for one in series:
            self.assertTrue(read_series(one.text()) == one)
            self.assertEqual(read_series(one.text()).text(), one.text())
            for other in series:
                self.assertEqual(one == other, one.text() == other.text())


class OrderTest(unittest.TestCase):
    def test_order_of_series(self):
        texts = ["a{}", "load2{}", "load{host=a}", "load{host=a,zone=x}", "load{host=b}", "load{}"]
        texts = sorted(texts)
        self.assertEqual(texts.index("load2{}") + 1, texts.index("load{host=a,zone=x}"))
        for row in itertools.permutations(texts):
            series = [read_series(text) for text in row]
            self.assertEqual([one.text() for one in in_order(series)], texts)
            self.assertEqual([one.text() for one in in_order(tuple(series + series))], texts)
            self.assertEqual([one.text() for one in series], list(row))
        self.assertEqual(in_order([]), [])
        self.assertEqual(in_order(series=()), [])

    def test_each_one_told_is_of_the_list(self):
        series = [Series("b"), Series("a"), Series("b")]
        for one in in_order(series):
            self.assertTrue(any(one is other for other in series))

    def test_no_lists(self):
        one = Series("load")
        for value in odd_values(list, tuple) + [[one, "load{}"], ["load{}"], [None], [[one]], one, {one.text(): one}]:
            check_given(self, InvalidSeriesList, in_order, value)
            check_error(self, InvalidSeriesList(value), grouped, value, "Key")

    def test_word_of(self):
        one = Series("load", {"host": "a", "zone": "9"})
        self.assertEqual([word_of(one, key) for key in ("host", "zone", "name", "load", "a")],
                         ["a", "9", "load", None, None])
        self.assertEqual(word_of(key="host", series=one), "a")
        for value in odd_values() + ["load{}", [one]]:
            check_error(self, InvalidSeries(value), word_of, value, "host")
            check_error(self, InvalidSeries(value), word_of, value, "9")
        for value in odd_values(str) + ["", "9", "Host", "host ", "a" * 25]:
            check_error(self, InvalidName(value), word_of, one, value)


class GroupsTest(unittest.TestCase):
    def told(self, groups):
        self.assertIs(type(groups), list)
        for group in groups:
            self.assertIs(type(group), tuple)
        return [(word, [one.text() for one in series]) for word, series in groups]

    def test_groups(self):
        texts = ["load{host=b}", "heat{host=a,zone=x}", "load{host=a}", "load{zone=x}", "heat{}", "load{host=b}",
                 "up{host=10}", "up{host=9}", "load{zone=x}"]
        series = [read_series(text) for text in texts]
        self.assertEqual(self.told(grouped(series, "host")), [
            (None, ["heat{}", "load{zone=x}"]), ("10", ["up{host=10}"]), ("9", ["up{host=9}"]),
            ("a", ["heat{host=a,zone=x}", "load{host=a}"]), ("b", ["load{host=b}"])])
        self.assertEqual(self.told(grouped(tuple(series), "name")), [
            ("heat", ["heat{host=a,zone=x}", "heat{}"]), ("load", ["load{host=a}", "load{host=b}", "load{zone=x}"]),
            ("up", ["up{host=10}", "up{host=9}"])])
        self.assertEqual(self.told(grouped(series, "rack")), [(None, [one.text() for one in in_order(series)])])
        self.assertEqual(grouped(key="host", series=[]), [])
        self.assertEqual(self.told(grouped(series[:1], "host")), [("b", ["load{host=b}"])])

    def test_wrong_keys_and_what_is_told_is_free(self):
        series = [Series("load", {"host": "a"}), Series("load")]
        for value in odd_values(str) + ["", "9", "Host", "host=a"]:
            check_error(self, InvalidName(value), grouped, series, value)
            check_error(self, InvalidName(value), grouped, [], value)
        for told in (grouped(series, "host"), grouped(series, "name")):
            told[0][1].clear()
            told.clear()
        in_order(series).clear()
        self.assertEqual(self.told(grouped(series, "host")), [(None, ["load{}"]), ("a", ["load{host=a}"])])
        self.assertEqual(len(series), 2)


if __name__ == "__main__":
    unittest.main()
