"""One ordinary call, or more, of each function of the interface that is there by now, by its parameters' names."""

from letterround.ahead import can_be_ahead, fewest_ahead, sure_order
from letterround.alikebranches import boxed_branch, parting_number, told_branch
from letterround.barerows import bare_row, rounds_over
from letterround.boxcounts import count_in, index_in, ledger_at
from letterround.boxes import box_paper, greatest_in, path_numbers, sure_paths
from letterround.branches import Branch, bare_pair, hung, inner_ledger, pair_at
from letterround.builtrounds import are_rings, built_from, built_round, fitted
from letterround.caps import greatest_beneath, holders, lets_through
from letterround.corridors import Corridor, bare_spread, corridor_lets, spread_behind
from letterround.counting import count_holding, count_orders, count_rounds, factors, first_table
from letterround.courselengths import (longest_course, longest_ends, near_end_house, shortest_course, shortest_ends)
from letterround.coursenumbers import course_paces, least_passes, most_passes
from letterround.courserule import course_ends, course_fault, course_with, odd_houses
from letterround.courses import closed, is_passes, opened, passes_of, weights
from letterround.crossings import count_with_crossings, crossings_of, mean_runs, runs_between
from letterround.earlyrounds import early_round, late_round
from letterround.endsalone import ends_fault, longest_errands, path_range, rim_range, shortest_errands
from letterround.errands import errands_fault, errands_with
from letterround.exchanges import exchange_distance, exchange_row, exchanges
from letterround.firsthours import first_hour, first_hours, last_hour, last_hours, least_stretch
from letterround.flows import errands_by, flows_of, flows_paper
from letterround.goingon import lost_at, next_houses, run_picker
from letterround.greatest import greatest_ledger, is_wide, least_ledger
from letterround.hamlets import Hamlet
from letterround.hamlettexts import read_hamlet, write_hamlet
from letterround.hours import bar_between, can_follow, hours_of, tight_paths, whole_hours
from letterround.inall import letters_between
from letterround.joinchances import end_chances, joined_chances, mean_paths, run_chances
from letterround.joined import by_both, errands_between, joined_range, possible_runs, runs_range, sure_runs
from letterround.lacks import can_get, count_letters, gone_apart, lacks, least_letters
from letterround.ladders import is_ladder, ladder, stretches
from letterround.lengths import (gathering, longest_round, middles, near_house, one_more, shortest_round, walk_length)
from letterround.letterboxes import gone_span, house_span, is_in, letterbox_paper, sides, some_pair
from letterround.letters import is_letters, letters_beyond, letters_of
from letterround.lotchanges import lot_cut, lot_joined
from letterround.lots import caps_paper, holding_lot, is_holding
from letterround.numbering import count_begun, next_round, round_at, round_number
from letterround.offices import are_bags, bag_fault, bag_numbers, bags_of
from letterround.othervillages import built_on, joined_by, part_of, renamed
from letterround.pairings import all_pairings, count_apart, count_pairings, is_pairing, pairing_at, pairing_number
from letterround.pairlots import pair_lot, pair_numbers
from letterround.pathcounts import ends_for, errands_of, run_numbers
from letterround.roundchances import (drawn_round, first_chances, ledger_chance, mean_passes, mean_walk, next_chances,
                                      path_chances, some_chance, walk_chance)
from letterround.roundlots import is_lot, lot_fault, lot_ledger, lot_numbers, lot_of
from letterround.rounds import is_ledger, is_round, ledger_of, signs_at, walk_of
from letterround.runs import counts_of, is_counts, is_errands
from letterround.spans import (branch_numbers, end_span, fewest_possible, is_possible, most_possible, path_span,
                               possible_counts)
from letterround.stepsalone import few_ends, fewest_by_steps, most_by_steps
from letterround.tellers import can_be_right, fewest_liars, teller_clash
from letterround.therule import can_be, is_paper, paper_of, parting_paths, round_fault, spare
from letterround.toldends import fewest_returns, flows_with, greatest_returns, more_one_way
from letterround.tolls import cheapest, count_by_paces, dearest, ledger_with
from letterround.turns import count_rings, turns_of
from letterround.villages import Village, beside
from letterround.ways import beyond, way
from letterround.weaves import all_errands, count_weaves, is_weave, runs_by, weave_at, weave_number
from letterround.words import count_framed, count_words
from tests.helpers import HOUSES, LEDGER, LETTERS, PATHS, ROUND, star, tree, two

LEAST = {path: 1 for path in LEDGER}
RINGS = {"a": ["b", "a", "b", "a"], "b": ["a", "c", "a", "b", "d"], "c": ["b", "c"], "d": ["d", "b"]}
COUNTS = ({("a", "b"): 2, ("b", "c"): 1, ("b", "d"): 1}, {"a": 2, "b": 0, "c": 1, "d": 1})
PAIRS = ({("a", "b"): 2, ("b", "c"): 2, ("b", "d"): 2}, {"a": 2, "b": 0, "c": 2, "d": 2})
TOLLS = {("a", "b"): [3, -2], ("b", "c"): [0], ("b", "d"): [4]}
PASSES = {("a", "b"): 4, ("b", "c"): 1, ("b", "d"): 1}
CAPS = {("a", "b"): 2, ("b", "c"): 1, ("b", "d"): 1}
BOX = {("a", "b"): (1, 2), ("b", "c"): (0, 2), ("b", "d"): (1, 1)}
LETTERBOX = ({"a": (0, 2), "b": (0, 1), "c": (0, 1), "d": (0, 1)},
             {("a", "b"): (2, 2), ("b", "c"): (0, 2), ("b", "d"): (0, 2)})
TELLERS = [("a", 1), (("b", "a"), 2), ("c", 1), (("b", "c"), 1)]
NO_B = {"a": 2, "b": 0, "c": 1, "d": 1}
SPANS = ({("a", "b"): (0, 3), ("b", "c"): (1, 2), ("b", "d"): (0, 3)}, {"a": (1, 2), "b": (0, 2), "c": (1, 1), "d": (1, 4)})
TOLD = {"a": (1, 2), "b": (1, 1), "c": (1, 1), "d": (2, 1)}
LOT = [["a", "c"], ["b"], ["d", "a"]]
CHAIN = Village(["a", "b", "c", "d"], [("a", "b"), ("b", "c"), ("c", "d")])


def first_other(begun, left):
    """Tells the first house with letters left that is not the last one begun."""
    return [house for house in left if left[house] > 0 and house not in begun[-1:]][0]


def calls():
    """The list of pairs (function, its arguments by name)."""
    both = {"village": star(), "letters": LETTERS, "ledger": LEDGER}
    letters = {"village": star(), "letters": LETTERS}
    lengths = {"village": star(), "letters": LETTERS, "lengths": LEAST}
    row = {"village": star(), "row": ROUND}
    return [
        (Village, {"houses": HOUSES, "paths": PATHS}),
        (beside, {"village": star(), "house": "b"}),
        (way, {"village": star(), "one": "a", "other": "d"}),
        (beyond, {"village": star(), "house": "a", "other": "b"}),
        (is_letters, {"village": star(), "thing": LETTERS}),
        (letters_beyond, {**letters, "house": "a", "other": "b"}),
        (letters_of, row),
        (is_round, {**letters, "thing": ROUND}),
        (walk_of, row),
        (ledger_of, row),
        (is_ledger, {"village": star(), "thing": LEDGER}),
        (signs_at, {**row, "house": "b"}),
        (is_errands, {"village": star(), "thing": [("a", "c"), ("d", "a")]}),
        (counts_of, {"village": star(), "errands": [("a", "c"), ("d", "a")]}),
        (is_counts, {"village": star(), "thing": COUNTS}),
        (part_of, {"village": tree(), "some": ["e", "d", "c"]}),
        (built_on, {"village": star(), "house": "c", "name": "new"}),
        (joined_by, {"one": part_of(tree(), ["e", "d"]), "other": part_of(star(), ["b", "a"]), "house": "d",
                     "far": "b"}),
        (renamed, {"village": star(), "names": {"a": "x", "b": "a", "c": "b", "d": "c"}}),
        (parting_paths, letters),
        (spare, both),
        (can_be, both),
        (paper_of, both),
        (paper_of, {**both, "ledger": {**LEDGER, ("a", "b"): 3}}),
        (is_paper, {**both, "ledger": {**LEDGER, ("a", "b"): 3}, "thing": ("much", "a", "b")}),
        (round_fault, {**both, "thing": ROUND}),
        (round_fault, {**both, "thing": ROUND[1:]}),
        (built_round, both),
        (built_from, {**both, "first": "c"}),
        (are_rings, {"village": star(), "thing": RINGS}),
        (fitted, {"village": star(), "rings": RINGS}),
        (next_houses, {**both, "begun": ["c", "a"]}),
        (lost_at, {**both, "begun": ["c", "a", "a"]}),
        (run_picker, {**both, "picker": first_other}),
        (count_words, {"signs": [2, 1, 1], "free": 1}),
        (count_framed, {"signs": [2, 2], "free": 1}),
        (factors, {**both, "first": "b"}),
        (count_rounds, both),
        (first_table, both),
        (count_orders, letters),
        (count_holding, {**both, "one": "a", "other": "b"}),
        (round_at, {**both, "number": 11}),
        (round_number, row),
        (next_round, row),
        (count_begun, {**both, "begun": ["c", "a"]}),
        (turns_of, {"row": ROUND}),
        (count_rings, both),
        (greatest_ledger, letters),
        (least_ledger, letters),
        (is_wide, {**letters, "thing": ROUND}),
        (walk_length, {"village": star(), "lengths": LEAST, "row": ROUND}),
        (gathering, {**lengths, "house": "c"}),
        (middles, letters),
        (longest_round, lengths),
        (shortest_round, lengths),
        (near_house, {**lengths, "bound": 9}),
        (one_more, {**lengths, "house": "a"}),
        (stretches, {"village": CHAIN, "letters": {"a": 2, "b": 0, "c": 1, "d": 2}}),
        (ladder, {**letters, "high": LEDGER, "low": LEAST}),
        (is_ladder, {**letters, "thing": [LEDGER, LEAST]}),
        (count_by_paces, letters),
        (ledger_with, {**letters, "paces": 8}),
        (dearest, {**letters, "tolls": TOLLS}),
        (cheapest, {**letters, "tolls": TOLLS}),
        (passes_of, row),
        (is_passes, {"village": star(), "thing": LEDGER}),
        (weights, {**letters, "first": "c", "last": "d"}),
        (closed, {"village": star(), "passes": {("a", "b"): 4, ("b", "c"): 1, ("b", "d"): 1}, "first": "c",
                  "last": "d"}),
        (opened, {**row, "index": 2}),
        (beside, {"village": two(), "house": "x"}),
        *course_calls(),
        *capped_calls(),
        *unknown_calls(),
        *branch_calls(),
        *lot_calls(),
        *bag_calls(),
        *hour_calls(),
        *joined_calls(),
        *woven_calls(),
        *crossing_calls(),
        *span_calls(),
        *flow_calls(),
        *chance_calls(),
        *hamlet_calls(),
    ]


def course_calls():
    """Those of [44] to [48]."""
    ends = {"village": star(), "letters": LETTERS, "first": "c", "last": "d"}
    passed = {"village": star(), "letters": LETTERS, "passes": PASSES, "first": "c", "last": "d"}
    measured = {"village": star(), "letters": LETTERS, "lengths": LEAST, "first": "c", "last": "d"}
    lengths = {"village": star(), "letters": LETTERS, "lengths": LEAST}
    return [
        (course_fault, passed),
        (course_fault, {**passed, "passes": LEAST}),
        (course_with, passed),
        (odd_houses, {"village": star(), "passes": PASSES}),
        (course_ends, {"village": star(), "letters": LETTERS, "passes": PASSES}),
        (most_passes, ends),
        (least_passes, ends),
        (course_paces, ends),
        (longest_course, measured),
        (shortest_course, measured),
        (near_end_house, {**measured, "bound": 7}),
        (longest_ends, lengths),
        (shortest_ends, lengths),
    ]


def capped_calls():
    """Those of [51] to [57]."""
    caps = {"village": star(), "letters": LETTERS, "caps": CAPS}
    path = {**caps, "house": "a", "other": "b"}
    box = {"village": star(), "letters": LETTERS, "box": BOX}
    return [
        (greatest_beneath, caps),
        (lets_through, path),
        (holders, {**caps, "letters": {"a": 3, "b": 0, "c": 1, "d": 1}, "house": "b", "other": "a"}),
        (holders, {**caps, "caps": LEAST, "house": "b", "other": "a"}),
        (holding_lot, {**path, "letters": {"a": 2, "b": 0, "c": 1, "d": 1}, "number": 3}),
        (is_holding, {**path, "letters": {"a": 2, "b": 0, "c": 1, "d": 1}, "number": 3, "thing": ["d", "b"]}),
        (caps_paper, {**caps, "letters": {"a": 2, "b": 0, "c": 1, "d": 1}, "caps": {**CAPS, ("b", "d"): 0}}),
        (greatest_in, box),
        (box_paper, {**box, "box": {**BOX, ("a", "b"): (3, 3)}}),
        (path_numbers, {**box, "house": "a", "other": "b"}),
        (sure_paths, box),
        (count_in, box),
        (ledger_at, {**box, "number": 1}),
        (index_in, {**box, "ledger": LEDGER}),
    ]


def unknown_calls():
    """Those of [60] to [67]."""
    ledger = {"village": star(), "ledger": LEDGER}
    box = {"village": star(), "box": LETTERBOX}
    return [
        (lacks, ledger),
        (gone_apart, {"village": CHAIN, "ledger": {("a", "b"): 2, ("b", "c"): 0, ("c", "d"): 1}}),
        (can_get, {**ledger, "thing": LETTERS}),
        (least_letters, ledger),
        (count_letters, {**ledger, "many": 5}),
        (is_in, {**box, "thing": (LETTERS, LEDGER)}),
        (sides, box),
        (letterbox_paper, {"village": star(), "box": ({**LETTERBOX[0], "a": (0, 1)}, LETTERBOX[1])}),
        (letterbox_paper, {"village": star(), "box": (LETTERBOX[0], {**LETTERBOX[1], ("a", "b"): (2, 2)})}),
        (some_pair, box),
        (gone_span, {**box, "path": ("c", "b")}),
        (house_span, {**box, "house": "a"}),
        (letters_between, box),
    ]


def some_branch():
    """The document's own branch."""
    village = Village(["r", "x", "y"], [("r", "x"), ("r", "y")])
    return Branch(village, "r", {"r": 1, "x": 4, "y": 1}, {("r", "x"): (2, 4), ("r", "y"): (1, 1)})


def branch_calls():
    """Those of [68] and [70] to [76]."""
    branch = some_branch()
    other = Branch(Village(["p", "q"], [("p", "q")]), "q", {"p": 2, "q": 1}, {("p", "q"): (1, None)})
    corridor = Corridor(star(), "a", "b", LETTERS, {("b", "d"): (0, 1)})
    return [
        (can_be_right, {"village": star(), "tellers": TELLERS}),
        (teller_clash, {"village": star(), "tellers": TELLERS}),
        (fewest_liars, {"village": star(), "tellers": TELLERS}),
        (fewest_liars, {"village": star(), "tellers": []}),
        (Branch, {"village": star(), "rim": "b", "letters": LETTERS, "boxes": {("b", "d"): (1, 2), ("a", "b"): (0, None)}}),
        (inner_ledger, {"branch": branch, "number": 3}),
        (bare_pair, {"branch": branch}),
        (pair_at, {"number": 1, "pairs": [(4, 4), (1, 1), (0, 0)]}),
        (hung, {"one": branch, "house": "y", "other": other, "box": (0, 2)}),
        (parting_number, {"one": branch, "other": other}),
        (told_branch, {"pair": (2, 6)}),
        (boxed_branch, {"pair": (2, 5)}),
        (Corridor, {"village": star(), "first": "a", "last": "b", "letters": LETTERS, "boxes": {("b", "d"): (0, 1)}}),
        (bare_spread, {"corridor": corridor}),
        (corridor_lets, {"corridor": corridor, "number": 2, "other": 3}),
        (spread_behind, {"one": (8, 10), "other": (2, 1)}),
        (bare_row, {"branch": branch}),
        (rounds_over, {"one": branch, "other": other}),
    ]


def lot_calls():
    """Those of [78] to [80], [95] and [96]."""
    both = {"village": star(), "letters": NO_B, "ledger": LEDGER}
    counts = {"village": star(), "counts": COUNTS}
    by_path = {"village": star(), "by_path": LEDGER}
    return [
        (is_lot, {"village": star(), "letters": LETTERS, "thing": LOT}),
        (lot_ledger, {"village": star(), "lot": LOT}),
        (lot_fault, {**both, "ledger": {**LEDGER, ("a", "b"): 3}}),
        (lot_of, {**both, "number": 2}),
        (lot_numbers, both),
        (lot_joined, {"village": star(), "lot": LOT, "first": 2, "second": 0}),
        (lot_cut, {"village": star(), "lot": [["a", "a", "d"], ["b"]], "index": 0}),
        (errands_fault, {"village": star(), "counts": (LEDGER, {"a": 0, "b": 0, "c": 1, "d": 1})}),
        (errands_with, counts),
        (ends_for, {**by_path, "house": "b"}),
        (run_numbers, by_path),
        (errands_of, {**by_path, "number": 3}),
    ]


def bag_calls():
    """Those of [81] to [83]."""
    both = {"village": star(), "letters": NO_B, "ledger": LEDGER}
    office = {**both, "house": "b"}
    return [
        (pair_lot, {**both, "ledger": {**LEAST, ("a", "b"): 0}, "number": 2}),
        (pair_numbers, both),
        (are_bags, {**office, "thing": [["a", "c"], ("a", "d")]}),
        (bags_of, {**office, "number": 3}),
        (bag_numbers, office),
        (bag_fault, {**office, "number": 5}),
        (bag_fault, {**office, "ledger": {**LEDGER, ("a", "b"): 3}, "number": 1}),
    ]


def hour_calls():
    """Those of [85] to [93]."""
    both = {"village": star(), "letters": LETTERS, "ledger": LEDGER}
    timed = {**both, "lengths": LEAST}
    return [
        (hours_of, {"village": star(), "row": ROUND, "lengths": LEAST}),
        (whole_hours, {"village": star(), "ledger": LEDGER, "lengths": LEAST}),
        (tight_paths, {**both, "house": "a"}),
        (can_follow, {**both, "one": "a", "other": "c"}),
        (bar_between, {**both, "one": "a", "other": "a"}),
        (least_stretch, {**timed, "house": "a", "far": "b"}),
        (first_hour, {**timed, "start": "a", "house": "c"}),
        (first_hours, {**timed, "start": "a"}),
        (last_hour, {**timed, "start": "a", "house": "a"}),
        (last_hours, {**timed, "start": "a"}),
        (fewest_ahead, {**both, "start": "a", "house": "c"}),
        (can_be_ahead, {**both, "start": "a", "one": "c", "other": "b"}),
        (sure_order, {**both, "start": "a"}),
        (early_round, {**timed, "start": "a", "house": "c"}),
        (late_round, {**timed, "start": "a", "house": "a"}),
    ]


def joined_calls():
    """Those of [97] to [103]."""
    counts = {"village": star(), "counts": COUNTS}
    ends = {"village": star(), "ends": {"a": 2, "b": 2, "c": 1, "d": 3}}
    return [
        (joined_range, {**counts, "house": "b", "one": "a", "other": "c"}),
        (runs_range, {**counts, "one": "a", "other": "c"}),
        (errands_between, {**counts, "counts": (PAIRS[0], {**PAIRS[1], "b": 2}), "one": "a", "other": "c", "number": 1}),
        (sure_runs, counts),
        (possible_runs, counts),
        (by_both, {**counts, "first": ("b", "a"), "second": ("b", "d")}),
        (ends_fault, {**ends, "ends": {"a": 5, "b": 0, "c": 1, "d": 2}}),
        (rim_range, {**ends, "house": "a", "other": "b"}),
        (path_range, {**ends, "one": "b", "other": "a"}),
        (longest_errands, ends),
        (shortest_errands, ends),
    ]


def woven_calls():
    """Those of [107] to [110]."""
    counts = {"village": star(), "counts": PAIRS}
    pairing = [(("a", 0), ("c", 1)), (("d", 0), ("a", 1)), (("c", 0), ("d", 1))]
    ends = {house: [((house, 1), ("b", 0)), ((house, 0), ("b", 1))] for house in "acd"}
    weave = {**ends, "b": pairing}
    return [
        (all_pairings, {**counts, "house": "b"}),
        (is_pairing, {**counts, "house": "b", "thing": pairing}),
        (count_pairings, {**counts, "house": "b"}),
        (count_apart, {"members": [3, 2, 2, 1]}),
        (pairing_at, {**counts, "house": "b", "number": 3}),
        (pairing_number, {**counts, "house": "b", "pairing": pairing}),
        (is_weave, {**counts, "thing": weave}),
        (runs_by, {**counts, "weave": weave}),
        (count_weaves, counts),
        (weave_at, {**counts, "number": 9}),
        (weave_number, {**counts, "weave": weave}),
        (all_errands, {**counts, "counts": (PAIRS[0], {**PAIRS[1], "b": 2})}),
    ]


def crossing_calls():
    """Those of [111] to [113]."""
    counts = {"village": star(), "counts": PAIRS}
    one, other = [weave_at(star(), PAIRS, number) for number in (9, 46)]
    crossings = {("a", "a", "b"): 2, ("b", "a", "b"): 0, ("b", "a", "c"): 1, ("b", "a", "d"): 1, ("b", "b", "c"): 0,
                 ("b", "b", "d"): 0, ("b", "c", "d"): 1, ("c", "b", "c"): 2, ("d", "b", "d"): 2}
    return [
        (crossings_of, {**counts, "weave": one}),
        (count_with_crossings, {**counts, "crossings": crossings}),
        (runs_between, {**counts, "one": "a", "other": "c"}),
        (mean_runs, {**counts, "counts": (PAIRS[0], {**PAIRS[1], "b": 2}), "one": "a", "other": "c"}),
        (exchanges, {**counts, "weave": one}),
        (exchange_distance, {**counts, "one": one, "other": other}),
        (exchange_row, {**counts, "one": one, "other": other}),
    ]


def span_calls():
    """Those of [115] to [117]."""
    spans = {"village": star(), "spans": SPANS}
    return [
        (is_possible, {**spans, "thing": COUNTS}),
        (possible_counts, spans),
        (branch_numbers, {**spans, "house": "a", "other": "b"}),
        (path_span, {**spans, "house": "b", "other": "c"}),
        (end_span, {**spans, "house": "b"}),
        (fewest_possible, spans),
        (most_possible, spans),
    ]


def flow_calls():
    """Those of [118] to [122]."""
    flows = {"village": star(), "flows": flows_of(star(), [("a", "c"), ("d", "a"), ("c", "a")])}
    steps = {"village": star(), "steps": {pair: 1 for path in PATHS for pair in (path, path[::-1])}}
    told = {"village": star(), "told": TOLD}
    return [
        (flows_of, {"village": star(), "errands": [("a", "c"), ("d", "a"), ("c", "a")]}),
        (flows_paper, {**flows, "flows": (flows["flows"][0], TOLD)}),
        (errands_by, flows),
        (fewest_by_steps, steps),
        (most_by_steps, steps),
        (few_ends, steps),
        (more_one_way, {**told, "house": "b", "other": "c"}),
        (flows_with, {**told, "returns": LEDGER}),
        (greatest_returns, {**told, "caps": CAPS}),
        (fewest_returns, told),
    ]


def last_of(many):
    """Tells the last number below that."""
    return many - 1


def chance_calls():
    """Those of [125] to [133]."""
    both = {"village": star(), "letters": LETTERS, "ledger": LEDGER}
    letters = {"village": star(), "letters": LETTERS}
    counts = {"village": star(), "counts": (PAIRS[0], {**PAIRS[1], "b": 2})}
    return [
        (drawn_round, {**both, "chooser": last_of}),
        (path_chances, {**letters, "one": "b", "other": "a"}),
        (mean_passes, letters),
        (ledger_chance, both),
        (some_chance, {**letters, "some": {("b", "c"): 1, ("a", "b"): 2}}),
        (mean_walk, {**letters, "lengths": LEAST}),
        (walk_chance, {**letters, "lengths": LEAST}),
        (first_chances, both),
        (next_chances, {**both, "begun": ["c", "a"]}),
        (joined_chances, {**counts, "house": "b", "one": "a", "other": "c"}),
        (end_chances, {**counts, "house": "a"}),
        (mean_paths, {**counts, "house": "a"}),
        (run_chances, {**counts, "one": "a", "other": "c"}),
    ]


def some_hamlet():
    """A hamlet with letters, a postman who is out, and questions."""
    hamlet = Hamlet("b")
    for deed in (("build", "d", "b"), ("build", "a", "b"), ("out", "d"), ("bring", "a"), ("watch", ("spare", "a", "b")),
                 ("hold", ("parting",))):
        hamlet.do(deed)
    return hamlet


def hamlet_calls():
    """Those of [135] and [141]."""
    return [
        (Hamlet, {"name": "b"}),
        (write_hamlet, {"hamlet": some_hamlet()}),
        (read_hamlet, {"text": write_hamlet(some_hamlet())}),
    ]
