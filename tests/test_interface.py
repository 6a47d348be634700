"""The names of the interface stand where the document lists them, with its arguments."""

import importlib
import inspect
import unittest

LISTED = {
    "rampworks.errors": (),
    "rampworks.base.rows": (
        "is_row(value)", "are_rows(value)", "plus(one, other)", "less(one, other)", "dot(one, other)",
        "multiple(row, number)", "content(row)", "primitive(row)", "determinant(rows)", "rank(rows)", "basis(rows)",
        "kernel(rows)", "parts_or_form(rows, goal)", "is_parts_or_form(rows, goal, value)", "whole_or_test(rows, goal)",
        "is_whole_or_test(rows, goal, value)"),
    "rampworks.hull.corners": (
        "is_lot(value)", "value_at(lot, row)", "greatest_at(lot, row)", "corners(lot)", "corner_or_weights(lot, index)",
        "is_corner_or_weights(lot, index, value)", "inside_or_beyond(lot, row)", "is_inside_or_beyond(lot, row, value)",
        "alike_or_row(one, other)", "is_alike_or_row(one, other, value)"),
    "rampworks.hull.sums": (
        "summed(one, other)", "joined(one, other)", "scaled(lot, number)", "moved(lot, row)", "turned(lot)",
        "face(lot, row)", "shadow(lot, rows)", "edge_or_crossed(lot, one, other)",
        "is_edge_or_crossed(lot, one, other, value)", "edges(lot)"),
    "rampworks.hull.volumes": ("volume(lot)", "parting(lot)", "is_parting(lot, value)", "own_volume(lot)"),
    "rampworks.net.networks": (
        "value_of(network, row)", "unit_values(network, row)", "pattern_at(network, row)", "form_at(network, row)",
        "form_network(row)", "added(one, other)", "multiplied(network, number)", "ramped(network)",
        "greater(one, other)", "trimmed(network)", "Network(inputs, layers, last)"),
    "rampworks.net.readings": (
        "is_reading(value)", "value_at_reading(reading, row)", "reading_of(network)", "reading_of_form(row)",
        "added_reading(one, other)", "multiplied_reading(reading, number)", "ramped_reading(reading)",
        "greater_reading(one, other)", "do_agree(one, other)", "is_reading_of(network, value)", "network_of(reading)",
        "is_network_of(reading, value)"),
    "rampworks.net.alike": (
        "alike_or_point(one, other)", "is_alike_or_point(one, other, value)", "alike_along(one, other, rows)",
        "is_alike_along(one, other, rows, value)", "greatest_or_rows(network)", "is_greatest_or_rows(network, value)",
        "straight_or_rows(network)", "is_straight_or_rows(network, value)", "needless(network)"),
    "rampworks.depth.bars": (
        "is_growth(value)", "level_of(growth)", "grown(growth)", "growths_of(network)", "are_growths(network, value)",
        "parity(reading)", "barred(reading)"),
    "rampworks.depth.greatest": (
        "least_layers(many)", "greatest_network(many)", "does_tell_greatest(network)", "greatest_or_bar(many, layers)",
        "is_greatest_or_bar(many, layers, value)"),
    "rampworks.plane.fans": (
        "is_ray(value)", "is_round(value)", "is_smooth(value)", "round_of(reading)", "value_of_round(told, row)",
        "form_behind(told, row)", "put_between(ray, other)", "smooth_fan(rays)", "values_on(told, fan)",
        "round_by_values(fan, values)"),
    "rampworks.plane.depth": (
        "cut_up(lot)", "unit_counts(reading)", "least_depth(reading)", "depth_paper(reading)",
        "is_depth_paper(reading, value)", "network_for(reading)"),
    "rampworks.plane.least": (
        "border(lot)", "lot_of(border)", "rest(reading)", "row_between(one, other)", "least_reading(reading)",
        "is_least(reading)", "taken_off(reading)", "least_within(reading)", "is_least_within(reading, value)"),
    "rampworks.stick.sticks": (
        "is_bundle(value)", "made_by(row, bundle)", "is_symmetric(lot)", "plate_at(lot, row)", "most_stick(lot, row)",
        "bared(lot)", "sticks_or_plate(lot)", "is_sticks_or_plate(lot, value)"),
    "rampworks.stick.layer": (
        "is_place(reading, value)", "bend_at(reading, place)", "bends(reading)", "layer_or_places(reading)",
        "is_layer_or_places(reading, value)", "least_units(reading)"),
    "rampworks.stick.cells": (
        "cell_or_weights(sticks, signs)", "is_cell_or_weights(sticks, signs, value)", "cells(sticks)",
        "count_cells(sticks)", "most_cells(many, length)", "general_or_lot(sticks)", "is_general_or_lot(sticks, value)",
        "corner_of(sticks, signs)", "cell_at(sticks, row)", "walls(sticks, signs)", "way_between(sticks, one, other)",
        "is_way(sticks, one, other, value)"),
    "rampworks.depth.puts": (
        "led_row(row, puts)", "led_lot(lot, puts)", "led_reading(reading, puts)", "put_network(network, puts)",
        "both_puts(puts, further)", "is_barring(reading, layers, puts)", "barring_choice(reading, layers)",
        "three_puts(reading, places)"),
    "rampworks.net.signs": (
        "is_in_cone(cone, row)", "sign_or_row(network, cone)", "is_sign_or_row(network, cone, value)",
        "unit_kind(network, layer, unit, cone)", "is_mixed(network, layer, unit, cone, value)",
        "form_or_unit(network, cone)", "is_form_or_unit(network, cone, value)", "above_or_row(network, other, cone)",
        "is_above_or_row(network, other, cone, value)"),
    "rampworks.net.ones": (
        "upper(lot)", "upper_or_under(lot, index)", "is_upper_or_under(lot, index, value)",
        "value_at_place(reading, row, t)", "agree_or_place(one, other)", "is_agree_or_place(one, other, value)"),
    "rampworks.hull.mixed": (
        "mixed(lots)", "mixed_row(one, other)", "stick_volume(rows)", "mixed_with_stick(lots, row)",
        "pairs_or_low(lots)", "is_pairs_or_low(lots, value)"),
    "rampworks.text.texts": (
        "lot_text(lot)", "reading_text(reading)", "network_text(network)", "read_lot(text)", "read_reading(text)",
        "read_network(text)"),
    "rampworks.bench.bench": ("Bench()",),
    "rampworks.judge.claims": ("is_claim(value)", "opposite(claim)", "takes(claim, paper)", "answered(claim)")}
METHODS = (
    "put(self, name, network)", "drop(self, name)", "unit(self, name, layer, row)", "turn(self, name, layer, unit, row)",
    "last_row(self, name, row)", "leave(self, name, layer, unit)", "put_in(self, name, puts)", "undo(self)",
    "redo(self)", "network_of(self, name)", "ask(self, name, other)", "known(self, name, other)")
CONSTANTS = {
    "rampworks.base.rows": {"MOST_LENGTH": 16, "MOST_ROWS": 400},
    "rampworks.hull.corners": {"MOST_POINTS": 400},
    "rampworks.hull.sums": {"MOST_PAIRS": 2000, "MOST_ENDS": 60},
    "rampworks.hull.volumes": {"MOST_CORNERS": 60},
    "rampworks.net.networks": {"MOST_INPUTS": 8, "MOST_LAYERS": 4, "MOST_IN_LAYER": 64, "MOST_UNITS": 128},
    "rampworks.net.readings": {"MOST_READ": 60},
    "rampworks.depth.bars": {"MOST_WORDS": 400, "MOST_DEEP": 16},
    "rampworks.depth.greatest": {"MOST_NUMBERS": 6},
    "rampworks.plane.fans": {"MOST_RAYS": 64, "MOST_BENDS": 800},
    "rampworks.plane.least": {"MOST_EDGES": 400},
    "rampworks.stick.sticks": {"MOST_STICKS": 30},
    "rampworks.stick.cells": {"MOST_STICKS": 12},
    "rampworks.net.signs": {"MOST_SIDES": 6},
    "rampworks.hull.mixed": {"MOST_STICKS": 24},
    "rampworks.text.texts": {"MOST_TEXT": 1200000},
    "rampworks.bench.bench": {"MOST_NETWORKS": 12, "MOST_NAME": 8},
    "rampworks.judge.claims": {"MOST_IN_CLAIM": 20, "MOST_IN_READING": 12}}


class Interface(unittest.TestCase):

    def test_names(self):
        for module, listed in LISTED.items():
            kept = importlib.import_module(module)
            for line in listed:
                name, arguments = line[:-1].split("(")
                found = getattr(kept, name)
                self.assertEqual(found.__module__, module)
                self.assertEqual(list(inspect.signature(found).parameters), arguments.split(", ") if arguments else [])

    def test_constants(self):
        for module, listed in CONSTANTS.items():
            for name, value in listed.items():
                self.assertEqual(getattr(importlib.import_module(module), name), value)

    def test_methods_stand_in_their_class(self):
        kept = importlib.import_module("rampworks.net.networks").Network
        for name in ("__init__", "__eq__", "__str__"):
            self.assertIn(name, vars(kept))
        bench = importlib.import_module("rampworks.bench.bench").Bench
        for name in ("__init__", "__eq__", "__str__", "__len__", "__contains__"):
            self.assertIn(name, vars(bench))
        self.assertIsInstance(vars(bench)["names"], property)
        for line in METHODS:
            name, arguments = line[:-1].split("(")
            self.assertEqual(list(inspect.signature(vars(bench)[name]).parameters), arguments.split(", "))
