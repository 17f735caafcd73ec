"""[21] to [25]: octets, numbers, texts, readers and frames."""

import unittest

from everygrain.errors import InvalidCount, InvalidOctets, InvalidText, InvalidValue, Malformed, Short
from everygrain.octets import Reader, frame, frames, is_octets, number_octets, signed_octets, text_octets
from tests.support import Draw, check_error, check_examples, check_given, odd_values

BORDERS = {0: [0], 1: [1], 127: [127], 128: [128, 1], 129: [129, 1], 255: [255, 1], 256: [128, 2], 16383: [255, 127],
           16384: [128, 128, 1], 2097151: [255, 255, 127], 2097152: [128, 128, 128, 1]}


class ExamplesTest(unittest.TestCase):
    def test_examples_of_the_interface(self):
        check_examples(self, r"""
>>> from everygrain.octets import Reader, frame, frames, is_octets, number_octets, signed_octets, text_octets
>>> [number_octets(300), signed_octets(-3), text_octets("a=b"), is_octets((0, 256))]
[[172, 2], [5], [3, 97, 61, 98], False]
>>> reader = Reader([172, 2, 5, 1, 97, 7])
>>> [reader.number(), reader.signed(), reader.text(), reader.left(), reader.take(1)]
[300, -3, 'a', 1, [7]]
>>> [frame([1, 2, 255]), frames([1, 9, 9, 9, 0, 0, 0, 2, 9])]
[[3, 1, 2, 255, 2, 6], ([[9], []], 7)]
>>> Reader([128, 0]).signed()
raises Malformed()
""")


class OctetsTest(unittest.TestCase):
    def test_octets(self):
        for value in ([], (), [0], (255,), [0, 1, 255], list(range(256)), tuple(range(256)), [7] * 40000):
            self.assertIs(is_octets(value), True)
        for value in ([-1], [256], [0, 256], (0, -1), [True], [False], [0, True], [1.0], [None], ["a"], [[0]], [0, ()]):
            self.assertIs(is_octets(value), False)
        for value in odd_values(list, tuple):
            self.assertIs(is_octets(value), False)
        self.assertIs(is_octets(bytes([1, 2])), False)
        self.assertIs(is_octets(range(3)), False)
        self.assertIs(is_octets(bytearray(2)), False)
        self.assertIs(is_octets(value=[1]), True)


class NumbersTest(unittest.TestCase):
    def test_counts_at_the_borders(self):
        for count, octets in BORDERS.items():
            self.assertEqual(number_octets(count), octets)
            self.assertEqual(Reader(octets).number(), count)

    def test_a_count_below_a_power_takes_as_many_octets(self):
        for k in range(1, 30):
            self.assertEqual(len(number_octets(128 ** k - 1)), k)
            self.assertEqual(len(number_octets(128 ** k)), k + 1)

    def test_one_way_alone_and_no_beginning_of_another(self):
        told = {}
        for count in list(range(40000)) + [128 ** k + j for k in range(2, 9) for j in (-1, 0, 1)]:
            octets = tuple(number_octets(count))
            self.assertNotEqual(octets[-1] == 0, count != 0)
            self.assertTrue(all(octet >= 128 for octet in octets[:-1]) and octets[-1] < 128)
            told.setdefault(octets, count)
            self.assertEqual(told[octets], count)
            self.assertEqual(Reader(octets).number(), count)

    def test_no_counts(self):
        for value in odd_values(int) + [-1, -128, 300.0]:
            check_given(self, InvalidCount, number_octets, value)
        self.assertEqual(number_octets(count=5), [5])

    def test_signed(self):
        for value, octets in {0: [0], -1: [1], 1: [2], -2: [3], 2: [4], 63: [126], -64: [127], 64: [128, 1],
                              -65: [129, 1], 8191: [254, 127], -8192: [255, 127], 8192: [128, 128, 1]}.items():
            self.assertEqual(signed_octets(value), octets)
            self.assertEqual(Reader(octets).signed(), value)
        for k in range(1, 60):
            for value in (10 ** k, 10 ** k + 1, -10 ** k, 1 - 10 ** k):
                self.assertEqual(Reader(signed_octets(value)).signed(), value)
                self.assertEqual(signed_octets(value), number_octets(2 * value if value >= 0 else -2 * value - 1))
        for value in odd_values(int):
            check_given(self, InvalidValue, signed_octets, value)
        self.assertEqual(signed_octets(value=-1), [1])


class TextsTest(unittest.TestCase):
    def test_printable_signs(self):
        for code in range(400):
            if 32 <= code <= 126 and code != 37:
                self.assertEqual(text_octets(chr(code)), [1, code])
                self.assertEqual(Reader([1, code]).text(), chr(code))
            else:
                check_given(self, InvalidText, text_octets, "a" + chr(code))
                if code < 256:
                    check_error(self, Malformed(), Reader([1, code]).text)

    def test_lengths(self):
        for many in (0, 1, 127, 128, 450, 16384):
            text = "~ " * (many // 2) + "x" * (many % 2)
            octets = text_octets(text)
            self.assertEqual(octets, number_octets(many) + [ord(sign) for sign in text])
            reader = Reader(octets + [9])
            self.assertEqual((reader.text(), reader.left()), (text, 1))
        self.assertEqual(text_octets(text=""), [0])

    def test_no_texts(self):
        for value in odd_values(str) + ["a\n", "\t", "100%", "\u00e4", "\ud800", "\x7f", "a\x00"]:
            check_given(self, InvalidText, text_octets, value)


class ReaderTest(unittest.TestCase):
    def check_unmoved(self, error, octets, name):
        reader = Reader(octets)
        for _ in range(2):
            check_error(self, error, getattr(reader, name))
            self.assertEqual(reader.left(), len(octets))
        self.assertEqual(reader.take(len(octets)), list(octets))

    def test_no_octets(self):
        for value in odd_values(list, tuple) + [[256], [True], [1.0], (-1,), [[1]]]:
            check_given(self, InvalidOctets, Reader, value)
        self.assertEqual(Reader(octets=(3,)).number(), 3)

    def test_numbers_that_end_early_or_in_0(self):
        for name in ("number", "signed"):
            for octets in ([], [128], [255], [128, 128], (255,) * 40):
                self.check_unmoved(Short(), octets, name)
            for octets in ([128, 0], [255, 0], [128, 128, 0], [129, 0, 5], [200] * 40 + [0]):
                self.check_unmoved(Malformed(), octets, name)
            self.assertEqual(getattr(Reader([0, 128]), name)(), 0)

    def test_texts_that_end_early_or_have_other_signs(self):
        for octets in ([], [128], [1], [2, 97], [3, 10, 10], [2, 37], [128, 1, 97], [255, 255, 255, 127, 97]):
            self.check_unmoved(Short(), octets, "text")
        for octets in ([128, 0], [128, 0, 97], [1, 37], [1, 31], [1, 127], [2, 97, 10], [2, 0, 97, 97], [1, 255, 1]):
            self.check_unmoved(Malformed(), octets, "text")

    def test_take(self):
        reader = Reader([5, 6, 7])
        self.assertEqual((reader.take(0), reader.take(2), reader.left()), ([], [5, 6], 1))
        for value in odd_values(int) + [-1]:
            check_given(self, InvalidCount, reader.take, value)
        for many in (2, 3, 10 ** 30):
            check_error(self, Short(), reader.take, many)
        self.assertEqual((reader.left(), reader.take(count=1), reader.left(), reader.take(0)), (1, [7], 0, []))
        check_error(self, Short(), reader.take, 1)

    def test_one_behind_the_other(self):
        draw = Draw(23)
        for _ in range(100):
            values = [draw.within(-10 ** draw.below(13), 10 ** draw.below(13)) for _ in range(draw.below(20))]
            octets = []
            for value in values:
                octets += signed_octets(value) + number_octets(abs(value)) + text_octets(str(value))
            reader = Reader(octets)
            told = [(reader.signed(), reader.number(), reader.text()) for _ in values]
            self.assertEqual(told, [(value, abs(value), str(value)) for value in values])
            self.assertEqual(reader.left(), 0)

    def test_copied(self):
        reader = Reader([1, 2, 3, 4])
        reader.number()
        other = reader.copied()
        self.assertIs(type(other), Reader)
        self.assertEqual((other.left(), other.take(2), reader.left()), (3, [2, 3], 3))
        self.assertEqual((reader.number(), other.left(), other.number(), reader.left()), (2, 1, 4, 2))
        self.assertEqual(other.copied().left(), 0)
        self.assertEqual(reader.copied().take(2), [3, 4])

    def test_what_is_handed_in_is_not_kept_and_what_is_told_is_free(self):
        octets = [1, 2, 3]
        reader = Reader(octets)
        copied = reader.copied()
        octets[1] = 9
        octets.append(4)
        taken = reader.take(2)
        taken[1] = 7
        self.assertEqual((taken, copied.take(3), reader.left()), ([1, 7], [1, 2, 3], 1))
        self.assertEqual(octets, [1, 9, 3, 4])


def told_checks(payload):
    total, weighed = 0, 0
    for octet in payload:
        total += octet
        weighed += total
    return [total % 256, weighed % 256]


class FramesTest(unittest.TestCase):
    def test_frame(self):
        self.assertEqual(frame([]), [0, 0, 0])
        self.assertEqual(frame(()), [0, 0, 0])
        self.assertEqual(frame((200, 100)), [2, 200, 100, 44, 244])
        for many in (1, 126, 127, 128, 129, 16383, 16384, 40000):
            payload = [(at * 37 + 11) % 256 for at in range(many)]
            self.assertEqual(frame(payload), number_octets(many) + payload + told_checks(payload))
            self.assertEqual(frames(frame(payload)), ([payload], len(frame(payload))))
        self.assertEqual(frame(payload=[1]), [1, 1, 1, 1])

    def test_no_octets(self):
        for value in odd_values(list, tuple) + [[256], [True], [0, 1.0], ([],)]:
            check_given(self, InvalidOctets, frame, value)
            check_given(self, InvalidOctets, frames, value)
        self.assertEqual(frames(octets=()), ([], 0))
        self.assertEqual(frames([]), ([], 0))
        self.assertIs(type(frames([])), tuple)

    def test_each_beginning_of_a_row_of_frames(self):
        payloads = [[5], [], [1, 2, 3], list(range(127)), list(range(128)), [0], [255] * 3, []]
        octets, ends = [], [0]
        for payload in payloads:
            octets += frame(payload)
            ends.append(len(octets))
        for at in range(len(octets) + 1):
            many = max(k for k, end in enumerate(ends) if end <= at)
            self.assertEqual(frames(octets[:at]), (payloads[:many], ends[many]))
            self.assertEqual(frames(tuple(octets[:at])), (payloads[:many], ends[many]))

    def test_one_octet_changed(self):
        ahead, payload, behind = [9, 9], [4, 0, 255, 128, 7], [1]
        row = frame(ahead) + frame(payload) + frame(behind)
        start = len(frame(ahead))
        for at in range(start + 1, start + len(frame(payload))):
            for octet in range(256):
                if octet != row[at]:
                    changed = row[:at] + [octet] + row[at + 1:]
                    self.assertEqual(frames(changed), ([ahead], start))

    def test_two_neighbours_exchanged(self):
        payload = [4, 0, 255, 128, 7, 7, 8, 200, 72]
        row = frame([9]) + frame(payload) + frame([])
        for at in range(len(payload) - 1):
            if payload[at] != payload[at + 1]:
                place = len(frame([9])) + 1 + at
                changed = row[:place] + [row[place + 1], row[place]] + row[place + 2:]
                self.assertEqual(frames(changed), ([[9]], len(frame([9]))))

    def test_lengths_that_are_cut_or_told_in_a_longer_way(self):
        for wrong in ([128], [128, 0, 0, 0], [129, 0, 5, 5, 5], [128, 1], [255, 255], [1, 5, 5], [1, 5, 5, 6], [1, 5, 4, 5],
                      [5, 1, 2], [128, 128, 0, 0, 0]):
            self.assertEqual(frames(wrong), ([], 0))
            self.assertEqual(frames(frame([3, 1]) + wrong + frame([])), ([[3, 1]], 5))

    def test_what_is_told_is_free(self):
        payload = [1, 2]
        octets = frame(payload)
        octets[1] = 8
        self.assertEqual((payload, frame(payload)), ([1, 2], [2, 1, 2, 3, 4]))
        told = frames(frame(payload))
        told[0][0].append(4)
        self.assertEqual(frames(frame(payload)), ([[1, 2]], 5))


if __name__ == "__main__":
    unittest.main()
