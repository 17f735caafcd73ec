"""[7] and the interface: names, arguments, and where they are defined."""

import inspect
import unittest

from everygrain import (
    answers, blocks, deeds, desk, disks, errors, examiner, folds, grains, indexes, layers, logs, octets, packs, plain,
    queries, ratios, rolls, selections, series, snapshots, stores, views, ways)

FUNCTIONS = {
    octets: {"is_octets": "(value)", "number_octets": "(count)", "signed_octets": "(value)", "text_octets": "(text)",
             "frame": "(payload)", "frames": "(octets)"},
    series: {"read_series": "(text)", "in_order": "(series)", "word_of": "(series, key)", "grouped": "(series, key)"},
    ratios: {"is_fraction": "(value)", "fraction": "(n, d)", "plus": "(one, other)", "minus": "(one, other)",
             "times": "(one, other)", "by": "(one, other)", "compared": "(one, other)"},
    folds: {"is_points": "(value)", "fold_of": "(rows)", "fold": "(points)", "is_fold": "(value)",
            "is_row_fold": "(value)", "points_of": "(fold)", "joined": "(one, other)", "beside": "(one, other)",
            "mean": "(fold)", "delta": "(fold)", "rate": "(fold)"},
    ways: {"told_in": "(values, *, way=0)", "pack_values": "(values)", "unpack_values": "(reader, count)"},
    packs: {"pack_times": "(times)", "unpack_times": "(reader)", "pack": "(points)", "unpack": "(octets)"},
    deeds: {"is_deed": "(value)"},
    layers: {"laid_at": "(layers, series, time)", "laid": "(layers, series, low, high)",
             "merged": "(older, newer, deepest=False)", "above": "(layer, edge)"},
    blocks: {"is_cells": "(length, value)", "layer_block": "(layer)", "cells_block": "(length, cells)",
             "read_block": "(octets)", "directory": "(octets)", "read_part": "(octets, series)"},
    logs: {"deed_record": "(deed)", "read_deed": "(record)", "deeds_of": "(octets)"},
    rolls: {"read_roll": "(record)", "file_name": "(kind, number)", "number_of": "(name)", "roll_of": "(octets)",
            "newest_roll": "(disk)", "next_number": "(disk, kind)"},
    selections: {"has": "(selection, series)", "chosen": "(selection, series)", "parting": "(one, other)"},
    answers: {"ask": "(source, query)", "told": "(rows)"},
    snapshots: {"changed": "(one, other, low, high)", "deeds_between": "(one, other, low, high)"},
    examiner: {"examine": "(disk)", "meaning": "(disk)"},
    desk: {"read_desk": "(rules, lines)"}}

METHODS = {
    octets.Reader: {"__init__": "(self, octets)", "left": "(self)", "copied": "(self)", "take": "(self, count)",
                    "number": "(self)", "signed": "(self)", "text": "(self)"},
    disks.Disk: {"append": "(self, name, octets)", "sync": "(self, name)", "drop": "(self, name)",
                 "read": "(self, name)", "synced": "(self, name)", "names": "(self)", "limit": "(self, count)",
                 "left": "(self)", "remains": "(self, choice)", "copied": "(self)", "__eq__": "(self, other)"},
    series.Series: {"__init__": "(self, name, tags=())", "text": "(self)", "__eq__": "(self, other)"},
    grains.Rules: {"__init__": "(self, rows)", "__len__": "(self)", "__eq__": "(self, other)", "length": "(self, grain)",
                   "keep": "(self, grain)", "step": "(self, grain)", "edge": "(self, grain, clock)",
                   "stands": "(self, grain, time, clock)", "gone_from": "(self, grain, time)",
                   "cell": "(self, grain, time)", "teller": "(self, low, step, clock)",
                   "untold_from": "(self, low, step)", "pieces": "(self, low, step, clock)"},
    plain.Plain: {"__init__": "(self, rules)", "do": "(self, deed)", "rules": "(self)", "clock": "(self)",
                  "done": "(self)", "series": "(self)", "points": "(self, series, low, high)",
                  "folds": "(self, series, low, high, step)"},
    layers.Layer: {"put": "(self, series, time, value)", "take": "(self, series, low, high)",
                   "look": "(self, series, time)", "points": "(self, series)", "taken": "(self, series)",
                   "series": "(self)", "is_empty": "(self)", "copied": "(self)", "__eq__": "(self, other)"},
    rolls.Roll: {"__init__": "(self, done, clock, rules, log, layers, cells, views)", "files": "(self)",
                 "record": "(self)", "__eq__": "(self, other)"},
    selections.Selection: {"__init__": "(self, text)", "text": "(self)", "__eq__": "(self, other)"},
    queries.Query: {"__init__": "(self, text)", "text": "(self)", "windows": "(self)", "__eq__": "(self, other)"},
    views.View: {"__init__": "(self, text)", "text": "(self)", "step": "(self)", "query": "(self, low, high)",
                 "__eq__": "(self, other)"},
    indexes.Index: {"__init__": "(self)", "put": "(self, series)", "drop": "(self, series)", "series": "(self)",
                    "chosen": "(self, selection)", "of_tag": "(self, key, word)", "words": "(self, key)"},
    snapshots.Snapshot: {"points": "(self, series, low, high)", "folds": "(self, series, low, high, step)",
                         "series": "(self)", "ask": "(self, query)", "views": "(self)",
                         "read_view": "(self, name, low, high)", "rules": "(self)", "clock": "(self)",
                         "done": "(self)"},
    stores.Store: {"__init__": "(self, disk, rules=None)", "do": "(self, deed)", "sync": "(self)", "done": "(self)",
                   "synced": "(self)", "clock": "(self)", "rules": "(self)", "points": "(self, series, low, high)",
                   "folds": "(self, series, low, high, step)", "series": "(self)", "seal": "(self)",
                   "merge": "(self, last=False)", "expire": "(self)", "blocks": "(self)", "weight": "(self)",
                   "ask": "(self, query)", "views": "(self)", "read_view": "(self, name, low, high)",
                   "fresh": "(self, name)", "snapshot": "(self)"},
    desk.Desk: {"__init__": "(self, rules)", "do": "(self, line)", "journal": "(self)", "disk": "(self)"}}


class InterfaceTest(unittest.TestCase):
    def test_functions(self):
        for module, functions in FUNCTIONS.items():
            for name, arguments in functions.items():
                function = vars(module)[name]
                self.assertEqual((function.__module__, function.__name__), (module.__name__, name))
                self.assertEqual(str(inspect.signature(function)), arguments, name)

    def test_methods_stand_in_the_class_itself(self):
        for kind, methods in METHODS.items():
            for name, arguments in methods.items():
                self.assertEqual(str(inspect.signature(vars(kind)[name])), arguments, name)
        modules = [kind.__module__ for kind in METHODS]
        names = "octets disks series grains plain layers rolls selections queries views indexes snapshots stores desk"
        self.assertEqual(modules, ["everygrain." + name for name in names.split()])

    def test_errors_are_defined_in_their_file(self):
        for value in vars(errors).values():
            if isinstance(value, type):
                self.assertEqual(value.__module__, "everygrain.errors")

    def test_attributes_are_set(self):
        self.assertEqual(vars(series.Series("a", {"b": "c"})), {"name": "a", "tags": (("b", "c"),)})
        self.assertEqual(vars(grains.Rules([(1, 8), (4, None)])), {"rows": ((1, 8), (4, None))})
        rules = grains.Rules([(1, 8)])
        self.assertEqual(vars(rolls.Roll(1, 2, rules, 3, [4], [], [("v", "x")])), {
            "done": 1, "clock": 2, "rules": rules, "log": 3, "layers": (4,), "cells": (), "views": (("v", "x"),)})

    def test_kinds_of_values(self):
        self.assertIs(type(folds.fold([(1, 2)])), tuple)
        self.assertIs(type(folds.joined(folds.fold([(1, 2)]), folds.fold([(2, 2)]))), tuple)
        self.assertIs(type(ratios.plus((1, 2), (1, 2))), tuple)
        self.assertIs(type(octets.frames([])), tuple)
        self.assertIs(type(packs.unpack((0, 0))), list)
        self.assertIs(type(packs.unpack([1, 1, 0, 2])[0]), tuple)
        for told in (octets.Reader((1, 2)).take(2), disks.Disk().names(), series.in_order(()), series.grouped((), "a"),
                     folds.points_of(None), ways.told_in(()), packs.pack_times(()), packs.pack(())):
            self.assertIs(type(told), list)
        rules, layer, one = grains.Rules([(1, 8)]), layers.Layer(), series.Series("a")
        for told in (rules.pieces(0, 1, 0), plain.Plain(rules).series(), plain.Plain(rules).points(one, 0, 1),
                     plain.Plain(rules).folds(one, 0, 1, 1), layer.points(one), layer.taken(one), layer.series(),
                     layers.laid((), one, 0, 1)):
            self.assertIs(type(told), list)
        block, roll = blocks.layer_block(layer), rolls.Roll(0, 0, rules, 1, (), (), ())
        for told in (block, blocks.cells_block(1, {}), blocks.directory(block), logs.deed_record(("clock", 1)),
                     roll.files(), roll.record(), selections.chosen(selections.Selection("all"), ())):
            self.assertIs(type(told), list)
        self.assertIs(type(blocks.read_block(block)[1]), layers.Layer)
        self.assertIs(type(layer.look(one, 0)), tuple)
        self.assertIs(type(rules.pieces(0, 1, 0)[0]), tuple)


if __name__ == "__main__":
    unittest.main()
