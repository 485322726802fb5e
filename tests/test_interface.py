"""The interface: each module's names, their arguments and their defaults, and where classes stand."""

import importlib
import inspect
import unittest

NAMES = {
    "errors": ["WayError", "NoWay", "Blocked(bridge, wheel)", "TextError(row)", "BadRow(row)", "Twice(row)",
               "NoBridge(row)", "NoLoad(row)", "TooNear(row)", "TooLong(row)"],
    "figures": ["number_of(text, most=None)", "is_word(text)"],
    "fractions": ["made(above, beneath)", "whole(number)", "plus(one, other)", "minus(one, other)", "times(one, other)",
                  "over(one, other)", "greater_of(one, other)", "less(one, other)", "in_order(some)",
                  "frac_text(fraction)", "frac_of(text)"],
    "roads": ["Open(length)", "Bridge(name, length, bears, wide, most)", "Road(pieces, rounds, shuts)",
              "bridges_of(road)", "bridge_of(road, name)", "round_of(road, name)", "shuts_of(road, name)"],
    "roadtext": ["road_from(rows)", "road_of(text)", "road_rows(road)", "road_text(road)"],
    "ways": ["ways_of(road)", "round_way(road)", "legs_of(road, way)", "length_of(road, way)"],
    "loads": ["Cart(name, speed, wheels)", "offsets_of(wheels)", "span_of(wheels)", "heaviest(wheels, width)",
              "lightest(wheels, width)", "joined(carts)", "fits(bridge, wheels)"],
    "loadtext": ["loads_from(rows, first)", "loads_of(text)", "load_rows(cart)", "loads_text(carts)"],
    "parting": ["ways_for(road, wheels)", "parted(road, cart, way)"],
    "crossing": ["times_on(road, crossing)", "clear_at(road, crossing)"],
    "burden": ["on_bridge(road, crossings, name, moment)", "moments_of(road, crossings, name)",
               "worst(road, crossings, name)", "worst_low(road, crossings, name)", "verdict(road, crossings, name)"],
    "watch": ["Trip(cart, way, start, crossings, ended)", "may_enter(road, crossings, crossing)",
              "entry_at(road, crossings, name, speed, wheels, coming)", "trip_of(road, crossings, cart, way, start)",
              "watched(road, sends)"],
    "shapes": ["shapes_of(road, carts)", "day_of_shape(road, carts, shape)", "end_of(trips)"],
    "plans": ["plan_of(road, carts)"],
    "papers": ["alone_time(road, cart)", "paper_of(road, carts)"],
    "daytext": ["Day(road, loads, sends)", "day_of(text)", "day_text(day)"],
    "days": ["carts_sent(day)", "run(day)", "log_of(day)", "replayed(day, log)"],
    "report": ["log_text(log)", "heard(text)", "report(text)"],
}


class Interface(unittest.TestCase):
    def test_names_and_arguments(self):
        for module, told in NAMES.items():
            held = importlib.import_module("ballastway." + module)
            for each in told:
                name, _, arguments = each.partition("(")
                value = getattr(held, name)
                self.assertEqual(value.__module__, "ballastway." + module)
                self.assertEqual(inspect.isclass(value), name[0].isupper(), name)
                if arguments:
                    self.assertEqual(f"{name}{inspect.signature(value)}", each)

    def test_classes_stand_under_no_other_one(self):
        for module, name in [("roads", "Open"), ("roads", "Bridge"), ("roads", "Road"), ("loads", "Cart"),
                             ("watch", "Trip"), ("daytext", "Day")]:
            value = getattr(importlib.import_module("ballastway." + module), name)
            self.assertEqual(value.__bases__, (object,))


if __name__ == "__main__":
    unittest.main()
