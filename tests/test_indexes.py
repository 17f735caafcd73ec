"""[144]: the index of series."""

import unittest

from everygrain.errors import InvalidName, InvalidSelection, InvalidSeries, InvalidWord
from everygrain.indexes import Index
from everygrain.selections import Selection, chosen
from everygrain.series import Series, in_order, read_series, word_of
from tests.support import Draw, check_examples, check_given, odd_values

TEXTS = ["load{host=a,zone=x}", "load{host=a}", "load{host=b}", "load{}", "heat{zone=x}", "heat{host=a,zone=y}", "up{host=9}",
         "heat{}", "load2{host=9}", "a{all=x}"]
ALL = [read_series(text) for text in TEXTS]
SELECTIONS = ["all", "!all", "host=a", "host=*", "!host=*", "name=load", "name=*", "zone=x | host=b", "host=a & !zone=y",
              "!(name=heat | host=9)", "rack=*", "all=x"]


def index_of(texts):
    index = Index()
    for text in texts:
        index.put(read_series(text))
    return index


class ExamplesTest(unittest.TestCase):
    def test_examples_of_the_interface(self):
        check_examples(self, r"""
>>> from everygrain.indexes import Index
>>> from everygrain.selections import Selection
>>> from everygrain.series import Series
>>> one, two = Series("load", {"host": "b"}), Series("load", {"host": "a", "zone": "x"})
>>> index = Index()
>>> index.put(one)
>>> index.put(two)
>>> index.put(Series("load", {"host": "b"}))
>>> [index.series() == [two, one], index.chosen(Selection("!zone=*")) == [one], index.of_tag("host", "a") == [two], index.words("host")]
[True, True, True, ['a', 'b']]
>>> index.drop(two)
>>> [index.words("host"), index.chosen(Selection("zone=x | host=a")), len(index.series())]
[['b'], [], 1]
""")


class IndexTest(unittest.TestCase):
    def check_tells(self, index, texts):
        """The index tells just these series, and of them what is told of a list."""
        wanted = in_order([read_series(text) for text in texts])
        self.assertEqual(index.series(), wanted)
        for text in SELECTIONS:
            self.assertEqual(index.chosen(Selection(text)), chosen(Selection(text), wanted), text)
        for key in ("host", "zone", "name", "rack", "all"):
            words = {word_of(one, key) for one in wanted} - {None}
            self.assertEqual(index.words(key), sorted(words))
            for word in ("a", "b", "9", "x", "load", "heat", "none"):
                self.assertEqual(index.of_tag(key, word), [one for one in wanted if word_of(one, key) == word])

    def test_empty(self):
        self.check_tells(Index(), [])

    def test_keys_that_all_some_and_no_series_have(self):
        index = index_of(TEXTS)
        self.assertEqual(index.words("host"), ["9", "a", "b"])
        self.assertEqual(index.words("zone"), ["x", "y"])
        self.assertEqual(index.words("rack"), [])
        self.assertEqual(index.words("name"), ["a", "heat", "load", "load2", "up"])
        self.assertEqual([one.text() for one in index.of_tag("host", "9")], ["load2{host=9}", "up{host=9}"])
        self.assertEqual([one.text() for one in index.of_tag("name", "heat")],
                         ["heat{host=a,zone=y}", "heat{zone=x}", "heat{}"])
        self.assertEqual(index.of_tag("rack", "a"), [])
        self.assertEqual(index.of_tag("name", "9"), [])
        self.check_tells(index, TEXTS)

    def test_drawn_puts_and_drops(self):
        draw = Draw(144)
        for _ in range(12):
            index, there = Index(), []
            for _ in range(25):
                text = draw.one_of(TEXTS)
                if draw.below(2):
                    self.assertIsNone(index.put(read_series(text)))
                    there = there + [text] if text not in there else there
                else:
                    self.assertIsNone(index.drop(read_series(text)))
                    there = [one for one in there if one != text]
                self.check_tells(index, there)

    def test_equal_series(self):
        index = Index()
        index.put(Series("a", {"k": "x", "j": "y"}))
        index.put(series=Series("a", [("j", "y"), ("k", "x")]))
        self.assertEqual([one.text() for one in index.series()], ["a{j=y,k=x}"])
        index.drop(series=read_series("a{k=x,j=y}"))
        self.check_tells(index, [])
        index.drop(read_series("a{}"))
        self.check_tells(index, [])

    def test_wrong_values(self):
        index = index_of(TEXTS[:2])
        for value in odd_values() + ["load{}", "all"]:
            check_given(self, InvalidSeries, index.put, value)
            check_given(self, InvalidSeries, index.drop, value)
            check_given(self, InvalidSelection, index.chosen, value)
        check_given(self, InvalidSeries, index.put, Selection("all"))
        check_given(self, InvalidSelection, index.chosen, ALL[0])
        for value in odd_values(str) + ["", "9", "-a", "A", "k" * 25, "a b"]:
            check_given(self, InvalidName, index.words, value)
            check_given(self, InvalidName, Index().words, value)
            check_given(self, InvalidName, lambda key: Index().of_tag(key, "a"), value)
            check_given(self, InvalidName, lambda key: index.of_tag(key, "a"), value)
            check_given(self, InvalidName, lambda key: index.of_tag(key, None), value)
        for value in odd_values(str) + ["", "-a", "A", "w" * 25, "a b", "*"]:
            check_given(self, InvalidWord, lambda word: index.of_tag("host", word), value)
        self.assertEqual(index.of_tag(key="host", word="9"), [])
        self.check_tells(index, TEXTS[:2])

    def test_what_is_told_is_free(self):
        index = index_of(TEXTS)
        for told in (index.series(), index.chosen(Selection("all")), index.of_tag("host", "a"), index.words("host")):
            self.assertIs(type(told), list)
            told.clear()
        self.check_tells(index, TEXTS)

    def test_indexes_are_apart(self):
        one, other = Index(), Index()
        one.put(ALL[0])
        self.assertEqual(other.series(), [])


if __name__ == "__main__":
    unittest.main()
