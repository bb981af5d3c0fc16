"""The interface: each name in its own file, with its parameters."""

import inspect
import unittest
from importlib import import_module

from tests.calls import calls

FILES = {
    "villages": "Village(houses, paths); beside(village, house)",
    "ways": "way(village, one, other); beyond(village, house, other)",
    "letters": "is_letters(village, thing); letters_beyond(village, letters, house, other); letters_of(village, row)",
    "rounds": "is_round(village, letters, thing); walk_of(village, row); ledger_of(village, row); "
              "is_ledger(village, thing); signs_at(village, row, house)",
    "runs": "is_errands(village, thing); counts_of(village, errands); is_counts(village, thing)",
    "othervillages": "part_of(village, some); built_on(village, house, name); joined_by(one, other, house, far); "
                     "renamed(village, names)",
    "therule": "parting_paths(village, letters); spare(village, letters, ledger); can_be(village, letters, ledger); "
               "paper_of(village, letters, ledger); is_paper(village, letters, ledger, thing); "
               "round_fault(village, letters, ledger, thing)",
    "builtrounds": "built_round(village, letters, ledger); built_from(village, letters, ledger, first); "
                   "are_rings(village, thing); fitted(village, rings)",
    "goingon": "next_houses(village, letters, ledger, begun); lost_at(village, letters, ledger, begun); "
               "run_picker(village, letters, ledger, picker)",
    "words": "count_words(signs, free); count_framed(signs, free)",
    "counting": "factors(village, letters, ledger, first); count_rounds(village, letters, ledger); "
                "first_table(village, letters, ledger); count_orders(village, letters); "
                "count_holding(village, letters, ledger, one, other)",
    "numbering": "round_at(village, letters, ledger, number); round_number(village, row); next_round(village, row); "
                 "count_begun(village, letters, ledger, begun)",
    "turns": "turns_of(row); count_rings(village, letters, ledger)",
    "greatest": "greatest_ledger(village, letters); least_ledger(village, letters); is_wide(village, letters, thing)",
    "lengths": "walk_length(village, lengths, row); gathering(village, letters, lengths, house); "
               "middles(village, letters); longest_round(village, letters, lengths); "
               "shortest_round(village, letters, lengths); near_house(village, letters, lengths, bound); "
               "one_more(village, letters, lengths, house)",
    "ladders": "stretches(village, letters); ladder(village, letters, high, low); is_ladder(village, letters, thing)",
    "tolls": "count_by_paces(village, letters); ledger_with(village, letters, paces); "
             "dearest(village, letters, tolls); cheapest(village, letters, tolls)",
    "courses": "passes_of(village, row); is_passes(village, thing); weights(village, letters, first, last); "
               "closed(village, passes, first, last); opened(village, row, index)",
    "courserule": "course_fault(village, letters, passes, first, last); "
                  "course_with(village, letters, passes, first, last); odd_houses(village, passes); "
                  "course_ends(village, letters, passes)",
    "coursenumbers": "most_passes(village, letters, first, last); least_passes(village, letters, first, last); "
                     "course_paces(village, letters, first, last)",
    "courselengths": "longest_course(village, letters, lengths, first, last); "
                     "shortest_course(village, letters, lengths, first, last); "
                     "near_end_house(village, letters, lengths, first, last, bound); "
                     "longest_ends(village, letters, lengths); shortest_ends(village, letters, lengths)",
    "caps": "greatest_beneath(village, letters, caps); lets_through(village, letters, caps, house, other); "
            "holders(village, letters, caps, house, other)",
    "lots": "holding_lot(village, letters, caps, house, other, number); "
            "is_holding(village, letters, caps, house, other, number, thing); caps_paper(village, letters, caps)",
    "boxes": "greatest_in(village, letters, box); box_paper(village, letters, box); "
             "path_numbers(village, letters, box, house, other); sure_paths(village, letters, box)",
    "boxcounts": "count_in(village, letters, box); ledger_at(village, letters, box, number); "
                 "index_in(village, letters, box, ledger)",
    "lacks": "lacks(village, ledger); gone_apart(village, ledger); can_get(village, ledger, thing); "
             "least_letters(village, ledger); count_letters(village, ledger, many)",
    "letterboxes": "is_in(village, box, thing); sides(village, box); letterbox_paper(village, box); "
                   "some_pair(village, box); gone_span(village, box, path); house_span(village, box, house)",
    "inall": "letters_between(village, box)",
    "tellers": "can_be_right(village, tellers); teller_clash(village, tellers); fewest_liars(village, tellers)",
    "branches": "Branch(village, rim, letters, boxes); inner_ledger(branch, number); bare_pair(branch); "
                "pair_at(number, pairs); hung(one, house, other, box)",
    "alikebranches": "parting_number(one, other); told_branch(pair); boxed_branch(pair)",
    "corridors": "Corridor(village, first, last, letters, boxes); bare_spread(corridor); "
                 "corridor_lets(corridor, number, other); spread_behind(one, other)",
    "barerows": "bare_row(branch); rounds_over(one, other)",
    "roundlots": "is_lot(village, letters, thing); lot_ledger(village, lot); lot_fault(village, letters, ledger); "
                 "lot_of(village, letters, ledger, number); lot_numbers(village, letters, ledger)",
    "lotchanges": "lot_joined(village, lot, first, second); lot_cut(village, lot, index)",
    "errands": "errands_fault(village, counts); errands_with(village, counts)",
    "pathcounts": "ends_for(village, by_path, house); run_numbers(village, by_path); "
                  "errands_of(village, by_path, number)",
    "pairlots": "pair_lot(village, letters, ledger, number); pair_numbers(village, letters, ledger)",
    "offices": "are_bags(village, letters, ledger, house, thing); bags_of(village, letters, ledger, house, number); "
               "bag_numbers(village, letters, ledger, house); bag_fault(village, letters, ledger, house, number)",
    "hours": "hours_of(village, row, lengths); whole_hours(village, ledger, lengths); "
             "tight_paths(village, letters, ledger, house); can_follow(village, letters, ledger, one, other); "
             "bar_between(village, letters, ledger, one, other)",
    "firsthours": "least_stretch(village, letters, ledger, lengths, house, far); "
                  "first_hour(village, letters, ledger, lengths, start, house); "
                  "first_hours(village, letters, ledger, lengths, start); "
                  "last_hour(village, letters, ledger, lengths, start, house); "
                  "last_hours(village, letters, ledger, lengths, start)",
    "ahead": "fewest_ahead(village, letters, ledger, start, house); "
             "can_be_ahead(village, letters, ledger, start, one, other); sure_order(village, letters, ledger, start)",
    "earlyrounds": "early_round(village, letters, ledger, lengths, start, house); "
                   "late_round(village, letters, ledger, lengths, start, house)",
    "joined": "joined_range(village, counts, house, one, other); runs_range(village, counts, one, other); "
              "errands_between(village, counts, one, other, number); sure_runs(village, counts); "
              "possible_runs(village, counts); by_both(village, counts, first, second)",
    "endsalone": "ends_fault(village, ends); rim_range(village, ends, house, other); "
                 "path_range(village, ends, one, other); longest_errands(village, ends); "
                 "shortest_errands(village, ends)",
    "pairings": "all_pairings(village, counts, house); is_pairing(village, counts, house, thing); "
                "count_pairings(village, counts, house); count_apart(members); "
                "pairing_at(village, counts, house, number); pairing_number(village, counts, house, pairing)",
    "weaves": "is_weave(village, counts, thing); runs_by(village, counts, weave); count_weaves(village, counts); "
              "weave_at(village, counts, number); weave_number(village, counts, weave); all_errands(village, counts)",
    "crossings": "crossings_of(village, counts, weave); count_with_crossings(village, counts, crossings); "
                 "runs_between(village, counts, one, other); mean_runs(village, counts, one, other)",
    "exchanges": "exchanges(village, counts, weave); exchange_distance(village, counts, one, other); "
                 "exchange_row(village, counts, one, other)",
    "spans": "is_possible(village, spans, thing); possible_counts(village, spans); "
             "branch_numbers(village, spans, house, other); path_span(village, spans, house, other); "
             "end_span(village, spans, house); fewest_possible(village, spans); most_possible(village, spans)",
    "flows": "flows_of(village, errands); flows_paper(village, flows); errands_by(village, flows)",
    "stepsalone": "fewest_by_steps(village, steps); most_by_steps(village, steps); few_ends(village, steps)",
    "toldends": "more_one_way(village, told, house, other); flows_with(village, told, returns); "
                "greatest_returns(village, told, caps); fewest_returns(village, told)",
    "roundchances": "drawn_round(village, letters, ledger, chooser); path_chances(village, letters, one, other); "
                    "mean_passes(village, letters); ledger_chance(village, letters, ledger); "
                    "some_chance(village, letters, some); mean_walk(village, letters, lengths); "
                    "walk_chance(village, letters, lengths); first_chances(village, letters, ledger); "
                    "next_chances(village, letters, ledger, begun)",
    "joinchances": "joined_chances(village, counts, house, one, other); end_chances(village, counts, house); "
                   "mean_paths(village, counts, house); run_chances(village, counts, one, other)",
    "hamlets": "Hamlet(name)",
    "hamlettexts": "write_hamlet(hamlet); read_hamlet(text)",
}


def listed():
    """The list of triples (file, name, list of parameters)."""
    told = []
    for file, row in FILES.items():
        for part in row.split("; "):
            name, params = part.rstrip(")").split("(")
            told.append((file, name, params.split(", ")))
    return told


class Interface(unittest.TestCase):
    def test_names_and_parameters(self):
        for file, name, params in listed():
            found = getattr(import_module("letterround." + file), name)
            self.assertEqual(found.__module__, "letterround." + file)
            self.assertEqual(list(inspect.signature(found).parameters), params, name)
            for param in inspect.signature(found).parameters.values():
                self.assertEqual((param.kind, param.default), (param.POSITIONAL_OR_KEYWORD, param.empty))

    def test_methods_of_hamlets_are_their_own(self):
        methods = {"now": "", "letters": "", "book": "", "postman": "", "watched": "", "do": "deed", "is_question": "thing",
                   "answer": "question", "would": "deed", "mending_paths": "", "count": "", "undo": "", "again": "", "deeds": "",
                   "at": "number", "copy": "", "trial": "work", "__eq__": "other"}
        for method, parameter in methods.items():
            found = vars(import_module("letterround.hamlets").Hamlet)[method]
            self.assertEqual(list(inspect.signature(found).parameters), ["self", *parameter.split()])

    def test_no_file_of_the_interface_is_missing(self):
        self.assertEqual((len(FILES), len(listed())), (57, 217))

    def test_methods_of_classes_are_their_own(self):
        methods = {"villages Village": "houses paths __len__ __eq__", "branches Branch": "village rim letters boxes __eq__",
                   "corridors Corridor": "village first last letters boxes __eq__"}
        for place, names in methods.items():
            file, name = place.split()
            found = getattr(import_module("letterround." + file), name)
            for method in ["__init__", *names.split()]:
                self.assertIn(method, vars(found))
                if not method.startswith("__"):
                    self.assertEqual(list(inspect.signature(vars(found)[method]).parameters), ["self"])

    def test_each_is_called_by_the_tests_of_what_is_told(self):
        called = {(function.__module__.split(".")[1], function.__name__) for function, _ in calls()}
        self.assertEqual(called, {(file, name) for file, name, _ in listed()})


if __name__ == "__main__":
    unittest.main()
