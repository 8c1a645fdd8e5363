"""The section "The interface": names, parameters, and where they are defined."""

import importlib
import inspect
import unittest

FUNCTIONS = {
    "counting": "power_of(base, exponent); space_count(prime, whole, part); "
                "table_count(prime, tall, wide, rank)",
    "fields": "check_thing(field, thing, index=0); check_things(field, things, most); "
              "check_columns(field, columns)",
    "spaces": "echelon(prime, width, rows); row_rank(prime, width, rows); "
              "contrary(prime, width, rows); sum_spaces(prime, width, one, other); "
              "meet_spaces(prime, width, one, other); holds_row(prime, width, rows, row); "
              "rows_of_space(prime, width, rows); unit_row(width, place); "
              "all_spaces(prime, width, dimension); things_space(field, things); "
              "space_things(field, things); holds_thing(field, things, thing)",
    "tables": "check_word(field, word, columns=None); table_of(field, word); "
              "word_of_table(field, table); digits_of_word(field, word); "
              "word_of_digits(field, digits); word_sum(field, one, other); "
              "word_less(field, one, other); scaled_word(field, thing, word); "
              "stepped_word(field, word, times); rank_of(field, word); "
              "rank_distance(field, one, other); rows_space(field, word); "
              "times_table(field, word, table)",
    "polys": "check_poly(field, poly, most=16); poly_sum(field, one, other); "
             "poly_less(field, one, other); put_into(field, outer, inner); "
             "reduced_poly(field, poly); value_at(field, poly, thing); "
             "values_at(field, poly, things); zeros_of(field, poly)",
    "divisions": "divided_within(field, poly, divisor); divided_about(field, poly, divisor); "
                 "common_about(field, one, other); least_about(field, one, other); "
                 "common_parts(field, one, other)",
    "spacepolys": "poly_of_space(field, things); interpolated(field, points, values); "
                  "check_points(field, points)",
    "maps": "map_table(field, poly); poly_of_map(field, table); undone_poly(field, poly)",
    "lots": "distance_of(lot)",
    "bounds": "bound_of(field, columns, distance); crowded_couple(lot, distance); is_met(lot); "
              "member_with_head(lot, head)",
    "closed": "sum_lots(one, other); meet_lots(one, other); rest_lot(lot)",
    "formulas": "words_of_rank(prime, degree, columns, rank); "
                "met_counts(prime, degree, columns, distance)",
    "restcounts": "identity_sides(prime, degree, columns, size, counts, others, part); "
                  "rest_counts(prime, degree, columns, size, counts); "
                  "counts_fault(prime, degree, columns, size, counts); "
                  "turned_counts(prime, degree, columns, couples); "
                  "completed_counts(prime, degree, columns, size, first)",
    "counts": "counts_of(lot); couple_counts(lot); least_members(lot); rank_counts(closed)",
    "within": "members_within(closed, rows); things_within(closed, things); "
              "members_bearing(closed, rows)",
    "evens": "even_heads(lot); uneven_space(lot, heads)",
    "keys": "reduced_things(field, width, rows); solutions_basis(field, width, rows); "
            "key_rows(polylot, word, errors); key_basis(polylot, word, errors); "
            "key_couple(polylot, word, errors)",
    "reading": "read_word(polylot, word); read_fault(polylot, word, read); "
               "read_count(polylot, *, most=None)",
    "nearest": "nearest_members(lot, word); members_around(lot, word, rank); reach_row(lot); "
               "far_word(polylot)",
    "middles": "rank_parts(field, word); way_between(field, one, other); "
               "middle_word(field, one, other); middle_fault(field, one, other, word); "
               "between_count(prime, rank, first); all_between(field, one, other, first)",
    "losses": "rest_rank(losses, word); rest_rank_count(losses, rank); parts_of(losses, error); "
              "parts_fault(losses, error, parts); joined_losses(one, other)",
    "lostreads": "read_lost(polylot, word, losses); nearest_lost(polylot, word, losses); "
                 "hidden_couple(polylot, losses)",
    "clashes": "find_clash(polylot, rows, things, errors); "
               "clash_fault(polylot, rows, things, errors, clash)",
    "covers": "check_cells(field, columns, cells); lane_cover(field, columns, cells); "
              "cover_fault(field, columns, cells, cover); worst_change(field, columns, cells)",
    "lanes": "lane_losses(field, columns, rows, places)",
    "packets": "check_rows(field, columns, rows); packets_of(field, word); "
               "rows_distance(field, columns, one, other)",
    "deeds": "run_net(net, rows); taken_through(net); net_bound(net); net_behind(first, second)",
    "received": "received_rows(losses, word); received_form(field, columns, rows); "
                "parting_of(field, word, rows); net_for(field, word, rows); "
                "net_fault(field, word, rows, net)",
    "sent": "read_rows(polylot, rows); nearest_sent(lot, rows)",
    "joined": "side_by_side(one, other); struck(closed, column); shortened(closed, column); "
              "mixed(closed, table); stepped_lot(closed, times)",
    "likes": "struck_points(polylot, column); shortened_points(polylot, column); "
             "mixed_points(polylot, table); stepped_points(polylot, times); "
             "scaled_points(polylot, thing); like_points(one, other); same_lot(one, other)",
    "backs": "closed_by_things(closed); meet_of_steps(closed, many); points_of(closed)",
    "datas": "number_of(polylot, poly); poly_of_number(polylot, number); poly_with_head(polylot, head)",
    "edits": "check_edits(field, edits); lot_after(polylot, edits)",
    "goals": "check_goals(field, goals); first_unmet(polylot, goals)",
    "mends": "find_mends(polylot, pool, goals); find_spoilers(polylot, pool, goals)",
    "bench": "try_edits(bench, edits, goals=())",
    "fieldtext": "field_text(field); read_field(text); word_text(field, word); "
                 "read_word_text(field, text)",
    "lottext": "lot_text(lot); read_lot(text)",
}

CLASSES = {
    ("fields", "Field(prime, modulus)"):
        "plus(one, other); minus(one, other); negative(one); times(one, other); inverse(one); "
        "over(one, other); multiple(number, thing); stepped(thing, times); digits_of(thing); "
        "thing_of(digits)",
    ("lots", "Lot(field, columns, members)"): "holds(word); all_members(); __len__(); __iter__()",
    ("lots", "Apart(distance, couple)"): "",
    ("closed", "ClosedLot(field, columns, words)"): "holds(word); all_members(); as_lot()",
    ("polylots", "PolyLot(field, points, terms)"):
        "word_for(poly); poly_for(word); holds(word); all_members(); as_lot(); as_closed()",
    ("reading", "Read(poly, word, error, rank)"): "",
    ("reading", "Far(least)"): "",
    ("nearest", "Nearest(rank, members)"): "",
    ("losses", "Losses(field, columns, rows, things)"): "",
    ("clashes", "Clash(one, other, word, losses)"): "",
    ("covers", "Cover(rows, columns, apart)"): "",
    ("stores", "Store(polylot)"):
        "write(poly); spoil(deeds); spoilt_cells(); spoilt_lanes(rows=(), places=()); read_plain(); "
        "read_known(rows, places); mend(rows=(), places=())",
    ("deeds", "Net(field, columns, coming, deeds)"): "",
    ("deeds", "Taken(table, false_rows)"): "",
    ("received", "Received(word, losses)"): "",
    ("bench", "Bench(polylot)"): "make(edit); put_in(poly); read_in(word); take_back()",
}

PROPERTIES = {"Losses": ("many",), "Store": ("written", "shown"),
              "Bench": ("current", "polys", "words", "log")}
NOT_COMPARED = ("Store", "Bench")


def parts_of(text):
    """Couples of a name and a text of parameters."""
    return [part[:-1].split("(", 1) for part in text.split("; ")] if text else []


def parameters(function):
    return str(inspect.signature(function))[1:-1]


class LayoutTest(unittest.TestCase):
    def test_functions(self):
        for name, text in FUNCTIONS.items():
            module = importlib.import_module("rankwords." + name)
            for function, told in parts_of(text):
                found = getattr(module, function)
                self.assertTrue(inspect.isfunction(found), function)
                self.assertEqual(found.__module__, module.__name__, function)
                self.assertEqual(parameters(found), told, function)

    def test_classes(self):
        for (name, text), methods in CLASSES.items():
            module = importlib.import_module("rankwords." + name)
            (word, told), = parts_of(text)
            found = getattr(module, word)
            self.assertTrue(inspect.isclass(found), word)
            self.assertEqual(found.__module__, module.__name__, word)
            self.assertEqual(parameters(found), told, word)
            self.assertEqual("__eq__" in vars(found), word not in NOT_COMPARED, word)
            for name in PROPERTIES.get(word, ()):
                self.assertIsInstance(vars(found)[name], property, name)
            for method, also in parts_of(methods):
                inside = vars(found)[method]
                self.assertTrue(inspect.isfunction(inside), method)
                wanted = "self, " + also if also else "self"
                self.assertEqual(parameters(inside), wanted, method)


if __name__ == "__main__":
    unittest.main()
