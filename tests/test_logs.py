"""[111] and [115]: deeds, their records, and logs."""

import unittest

from everygrain.deeds import is_deed, is_view_deed
from everygrain.errors import InvalidDeed, InvalidOctets, InvalidRecord
from everygrain.logs import deed_record, deeds_of, read_deed
from everygrain.octets import frame, number_octets, signed_octets, text_octets
from everygrain.series import Series, read_series
from tests.support import Draw, check_error, check_examples, check_given, odd_values
from tests.test_blocks import LONGEST
from tests.test_deeds import DEEDS, NO_DEEDS

A, LOAD = Series("a"), Series("load", {"host": "a", "zone": "x"})
# The printable signs; the one of the code 37 is none.
PRINTABLE = "".join(chr(code) for code in range(32, 127) if code != 37)
VIEW_DEEDS = [("view", "v", "x"), ("view", "v" * 24, PRINTABLE), ("view", "a-9", " "), ("view", "v", "x" * 400),
              ("unview", "v"), ("unview", "name"), ("unview", "v" * 24)]
NO_NAMES = odd_values(str) + ["", "9", "-a", "A", "a b", "v" * 25, "a_", "a\n", ["v"]]
NO_VIEW_TEXTS = odd_values(str) + ["", "x" * 401, "a%b", "\n", "x\t", "\u00e4", "x\x7f", ["x"], b"x"]
NO_VIEW_DEEDS = [("view", name, "x") for name in NO_NAMES] + [("unview", name) for name in NO_NAMES] + [
    ("view", "v", text) for text in NO_VIEW_TEXTS] + [
    ("view", "v"), ("view",), ("unview",), ("view", "v", "x", "x"), ("unview", "v", "x"), ["view", "v", "x"],
    ["unview", "v"], ("View", "v", "x"), ("views", "v", "x"), ("unview", ("v",)), (3, "v"), (4, "v", "x")]
NO_RECORD_DEEDS = [value for value in NO_DEEDS if value not in [("view", "v", "sum of all every 4"), ("unview", "v")]]


class ExamplesTest(unittest.TestCase):
    def test_examples_of_the_interface(self):
        check_examples(self, r"""
>>> from everygrain.logs import deed_record, deeds_of, read_deed
>>> from everygrain.series import Series
>>> [deed_record(("put", Series("a"), 3, -2)), deed_record(("take", Series("a"), 300, 301)), deed_record(("unview", "v"))]
[[0, 3, 97, 123, 125, 3, 3], [1, 3, 97, 123, 125, 172, 2, 1], [4, 1, 118]]
>>> [read_deed([2, 136, 1]), deeds_of([2, 2, 8, 10, 12, 2, 2]), deeds_of(())]
[('clock', 136), ([('clock', 8)], True), ([], False)]
>>> read_deed([2, 8, 0])
raises InvalidRecord([2, 8, 0])
""")


def plain_record(deed):
    """A record as plainly as can be."""
    if deed[0] == "put":
        return [0] + text_octets(deed[1].text()) + number_octets(deed[2]) + signed_octets(deed[3])
    if deed[0] == "take":
        return [1] + text_octets(deed[1].text()) + number_octets(deed[2]) + number_octets(deed[3] - deed[2])
    if deed[0] == "clock":
        return [2] + number_octets(deed[1])
    if deed[0] == "view":
        return [3] + text_octets(deed[1]) + text_octets(deed[2])
    return [4] + text_octets(deed[1])


def drawn_deed(draw):
    series, time = draw.one_of([A, LOAD, LONGEST]), draw.below(10 ** draw.below(13))
    return draw.one_of([("put", series, time, draw.within(-10 ** 12, 10 ** 12)), ("clock", time),
                        ("take", series, time, time + draw.within(1, 10 ** draw.below(13))), ("unview", "v"),
                        ("put", series, time, draw.within(-64, 63)),
                        ("view", draw.one_of(["v", "w9"]), "x" * draw.within(1, 400))])


class RecordsTest(unittest.TestCase):
    def check_record(self, deed):
        record = plain_record(deed)
        self.assertEqual(deed_record(deed), record)
        for given in (record, tuple(record)):
            told = read_deed(given)
            self.assertIs(type(told), tuple)
            self.assertTrue(told == deed)

    def test_each_deed(self):
        for deed in DEEDS + VIEW_DEEDS:
            self.check_record(deed)
            self.assertIs(is_view_deed(deed), deed in VIEW_DEEDS)
            self.assertIs(is_deed(deed), deed in DEEDS)
        self.assertEqual(deed_record(deed=("clock", 300)), [2, 172, 2])
        self.assertEqual(deed_record(("view", "v", "a b")), [3, 1, 118, 3, 97, 32, 98])
        self.assertEqual(read_deed(record=[4, 1, 118]), ("unview", "v"))
        draw = Draw(111)
        for _ in range(300):
            self.check_record(drawn_deed(draw))

    def test_texts_of_1_and_400_signs(self):
        for many in (1, 127, 128, 399, 400):
            self.check_record(("view", "v", "y" * many))
            self.assertEqual(len(deed_record(("view", "v" * 24, "y" * many))), 27 + many + (many > 127))
        for many in (0, 401, 402, 1000):
            check_error(self, InvalidDeed(("view", "v", "y" * many)), deed_record, ("view", "v", "y" * many))
            record = [3, 1, 118] + text_octets("y" * many)
            check_given(self, InvalidRecord, read_deed, record)

    def test_no_deeds(self):
        for value in NO_RECORD_DEEDS + NO_VIEW_DEEDS:
            check_given(self, InvalidDeed, deed_record, value)
            self.assertIs(is_view_deed(value), False)

    def test_sizes(self):
        draw = Draw(1110)
        for deed in [("put", LONGEST, 10 ** 12 - 1, 10 ** 12 - 1), ("put", LONGEST, 10 ** 12 - 1, 1 - 10 ** 12),
                     ("take", LONGEST, 10 ** 12 - 2, 10 ** 12 - 1), ("take", LONGEST, 0, 10 ** 12 - 1),
                     ("clock", 10 ** 12 - 1), ("unview", "v" * 24)] + [drawn_deed(draw) for _ in range(200)]:
            if deed[0] != "view":
                self.assertLessEqual(len(deed_record(deed)), 340)
                # [126]: so with its frame a deed takes at most 344 octets.
                self.assertLessEqual(len(frame(deed_record(deed))), 344)
        self.assertEqual(len(deed_record(("put", LONGEST, 10 ** 12 - 1, 10 ** 12 - 1))), 340)
        self.assertEqual(len(deed_record(("view", "v" * 24, "x" * 400))), 428)

    def check_no_record(self, record):
        check_given(self, InvalidRecord, read_deed, record)
        check_given(self, InvalidRecord, read_deed, tuple(record))

    def test_records_cut_and_with_octets_behind(self):
        for deed in DEEDS + VIEW_DEEDS:
            record = deed_record(deed)
            for at in range(len(record)):
                # A cut text of a view would have to tell less signs.
                self.check_no_record(record[:at])
            for more in ([0], [1], [255], record):
                self.check_no_record(record + more)

    def test_records_changed(self):
        """Whatever is read is the one deed whose record was read."""
        draw = Draw(1111)
        read = 0
        for _ in range(2000):
            record = deed_record(drawn_deed(draw))
            record[draw.below(len(record))] = draw.one_of([0, 1, 3, 97, 128, draw.below(256)])
            try:
                deed = read_deed(record)
            except InvalidRecord as error:
                self.assertIs(error.given, record)
                continue
            read += 1
            self.assertTrue(is_deed(deed) or is_view_deed(deed))
            self.assertEqual(plain_record(deed), record)
        self.assertGreater(read, 100)

    def test_octets_near_a_record(self):
        a = text_octets("a{}")
        for record in ([], [0], [5], [5, 1, 118], [255, 8], [128, 0, 8], [2], [2, 128], [2, 136, 0], [2, 8, 0], [1] + a + [3, 0],
                       [1] + a + [0, 0], [1] + a + [3], [1] + a + [3, 129, 0], [0] + a + [3], [0] + a + [131, 0, 4],
                       [0] + a + [3, 132, 0], [0] + a, [0, 0, 3, 4], [0] + text_octets("a") + [3, 4],
                       [0] + text_octets("a{c=1,b=2}") + [3, 4], [1] + text_octets("a{c=1,b=2}") + [3, 4],
                       [0] + text_octets("a{b=1,b=1}") + [3, 4], [0] + text_octets("A{}") + [3, 4],
                       [0, 131, 0, 97, 123, 125, 3, 4], [0, 3, 97, 37, 125, 3, 4], [4, 0], [4, 1, 57], [4, 1, 65],
                       [4] + text_octets("v" * 25), [3, 1, 118], [3, 1, 118, 0], [3, 0, 1, 118], [3, 1, 57, 1, 118],
                       [3, 1, 118, 1, 37], [3, 1, 118, 1, 10], [3, 1, 118, 129, 0, 97], [4, 129, 0, 118],
                       [2] + number_octets(10 ** 40) + [0], [0] + number_octets(10 ** 40) + [97]):
            self.check_no_record(record)
        self.assertTrue(read_deed([1] + a + [3, 1]) == ("take", A, 3, 4))
        self.assertEqual(read_deed([2] + number_octets(10 ** 40)), ("clock", 10 ** 40))

    def test_the_order_of_errors(self):
        for value in odd_values(list, tuple) + [[256], [True], [-1], [1.0], (0, None), [[2, 8]], "28"]:
            check_given(self, InvalidOctets, read_deed, value)
            check_given(self, InvalidOctets, deeds_of, value)

    def test_what_is_handed_in_stays_and_what_is_told_is_free(self):
        deed = ("put", read_series("load{zone=x,host=a}"), 3, 4)
        record = deed_record(deed)
        deed_record(deed).clear()
        read_deed(record)
        self.assertEqual((deed_record(deed), record), (record, plain_record(("put", LOAD, 3, 4))))


class LogsTest(unittest.TestCase):
    def test_a_log_cut_at_each_octet(self):
        draw = Draw(115)
        for _ in range(12):
            deeds = [drawn_deed(draw) for _ in range(draw.below(6))]
            log, ends = [], [0]
            for deed in deeds:
                log += frame(plain_record(deed))
                ends.append(len(log))
            for at in range(len(log) + 1):
                whole = len([end for end in ends[1:] if end <= at])
                told = deeds_of(log[:at])
                self.assertIs(type(told), tuple)
                self.assertIs(type(told[0]), list)
                self.assertEqual(told[1], at not in ends)
                self.assertIs(type(told[1]), bool)
                self.assertTrue(told[0] == deeds[:whole])
            self.assertTrue(deeds_of(octets=tuple(log)) == (deeds, False))

    def test_a_frame_whose_payload_is_no_record(self):
        good, other = frame([2, 8]), frame([4, 1, 118])
        for payload in ([], [2, 8, 0], [5], [2], [0, 3, 97, 123, 125, 3]):
            for log in (frame(payload), good + frame(payload), good + frame(payload) + other,
                        good + frame(payload) + frame([9]), frame(payload) + [7], good + frame(payload) + [2, 2]):
                check_error(self, InvalidRecord(payload), deeds_of, log)
                check_error(self, InvalidRecord(payload), deeds_of, tuple(log))
        # What stands behind a frame that is not whole is not read.
        self.assertEqual(deeds_of(good + [2, 2, 8, 0, 0] + frame([9])), ([("clock", 8)], True))
        self.assertEqual(deeds_of([2, 2, 8, 10, 13]), ([], True))
        self.assertEqual(deeds_of([128, 0]), ([], True))
        self.assertEqual(deeds_of([]), ([], False))

    def test_whether_a_store_would_refuse_is_not_asked(self):
        deeds = [("clock", 9), ("clock", 3), ("unview", "v"), ("view", "v", "no view at all")]
        log = [octet for deed in deeds for octet in frame(plain_record(deed))]
        self.assertEqual(deeds_of(log), (deeds, False))


if __name__ == "__main__":
    unittest.main()
