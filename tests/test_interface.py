"""[7] and the interface: names, arguments, and where they are defined."""

import inspect
import unittest

from everygrain import disks, errors, folds, octets, packs, ratios, series, ways

FUNCTIONS = {
    octets: {"is_octets": "(value)", "number_octets": "(count)", "signed_octets": "(value)", "text_octets": "(text)",
             "frame": "(payload)", "frames": "(octets)"},
    series: {"read_series": "(text)", "in_order": "(series)", "word_of": "(series, key)", "grouped": "(series, key)"},
    ratios: {"is_fraction": "(value)", "fraction": "(n, d)", "plus": "(one, other)", "minus": "(one, other)",
             "times": "(one, other)", "by": "(one, other)", "compared": "(one, other)"},
    folds: {"is_points": "(value)", "fold_of": "(rows)", "fold": "(points)", "is_fold": "(value)",
            "is_row_fold": "(value)", "points_of": "(fold)", "joined": "(one, other)", "beside": "(one, other)",
            "mean": "(fold)", "delta": "(fold)", "rate": "(fold)"},
    ways: {"told_in": "(values, *, way=0)", "pack_values": "(values)", "unpack_values": "(reader, count)"},
    packs: {"pack_times": "(times)", "unpack_times": "(reader)", "pack": "(points)", "unpack": "(octets)"}}

METHODS = {
    octets.Reader: {"__init__": "(self, octets)", "left": "(self)", "copied": "(self)", "take": "(self, count)",
                    "number": "(self)", "signed": "(self)", "text": "(self)"},
    disks.Disk: {"append": "(self, name, octets)", "sync": "(self, name)", "drop": "(self, name)",
                 "read": "(self, name)", "synced": "(self, name)", "names": "(self)", "limit": "(self, count)",
                 "left": "(self)", "remains": "(self, choice)", "copied": "(self)", "__eq__": "(self, other)"},
    series.Series: {"__init__": "(self, name, tags=())", "text": "(self)", "__eq__": "(self, other)"}}


class InterfaceTest(unittest.TestCase):
    def test_functions(self):
        for module, functions in FUNCTIONS.items():
            for name, arguments in functions.items():
                function = vars(module)[name]
                self.assertEqual((function.__module__, function.__name__), (module.__name__, name))
                self.assertEqual(str(inspect.signature(function)), arguments, name)

    def test_methods_stand_in_the_class_itself(self):
        for kind, methods in METHODS.items():
            for name, arguments in methods.items():
                self.assertEqual(str(inspect.signature(vars(kind)[name])), arguments, name)
        modules = [kind.__module__ for kind in METHODS]
        self.assertEqual(modules, ["everygrain.octets", "everygrain.disks", "everygrain.series"])

    def test_errors_are_defined_in_their_file(self):
        for value in vars(errors).values():
            if isinstance(value, type):
                self.assertEqual(value.__module__, "everygrain.errors")

    def test_attributes_are_set(self):
        self.assertEqual(vars(series.Series("a", {"b": "c"})), {"name": "a", "tags": (("b", "c"),)})

    def test_kinds_of_values(self):
        self.assertIs(type(folds.fold([(1, 2)])), tuple)
        self.assertIs(type(folds.joined(folds.fold([(1, 2)]), folds.fold([(2, 2)]))), tuple)
        self.assertIs(type(ratios.plus((1, 2), (1, 2))), tuple)
        self.assertIs(type(octets.frames([])), tuple)
        self.assertIs(type(packs.unpack((0, 0))), list)
        self.assertIs(type(packs.unpack([1, 1, 0, 2])[0]), tuple)
        for told in (octets.Reader((1, 2)).take(2), disks.Disk().names(), series.in_order(()), series.grouped((), "a"),
                     folds.points_of(None), ways.told_in(()), packs.pack_times(()), packs.pack(())):
            self.assertIs(type(told), list)


if __name__ == "__main__":
    unittest.main()
