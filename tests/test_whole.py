"""What the document promises over the whole program."""

import copy
import importlib
import inspect
import unittest

from ringcubes.braids import closed_braid
from ringcubes.chains import Chain, chain_of
from ringcubes.cube import states
from ringcubes.desk import Desk
from ringcubes.drawings import Drawing
from ringcubes.leastpapers import least_paper
from ringcubes.live import LiveDrawing
from ringcubes.maps import plain_map
from ringcubes.papers import move_paper
from ringcubes.patches import Patch, patch_of
from ringcubes.rooms import rooms, whole_rooms
from tests.patchworks import CROSS, STRAND, braid_patch
from tests.samples import EIGHT, HOPF, KINK, NOTHING, RINGS, TREFOIL, same_kinds
from tests.test_form import INTERFACE

PARAMETERS = {
    "drawings": {"Drawing": "crossings rings", "ways": "drawing", "way_count": "drawing", "linking": "drawing one other",
                 "pieces": "drawing"},
    "faces": {"faces": "drawing", "shades": "drawing"},
    "views": {"mirrored": "drawing", "turned_about": "drawing", "way_turned": "drawing index", "renamed": "drawing table",
              "in_order": "drawing order", "alike": "one other"},
    "moves": {"kinked": "drawing arc sign over", "ring_kinked": "drawing sign", "unkinked": "drawing crossing",
              "laid_over": "drawing over under", "pulled_off": "drawing one other", "slid": "drawing face"},
    "braids": {"closed_braid": "strands word"},
    "rings": {"smoothed": "drawing choice", "edge": "drawing choice crossing"},
    "cube": {"states": "drawing height weight", "step_rows": "drawing height weight"},
    "rooms": {"rooms": "prime drawing", "whole_rooms": "drawing", "rooms_of": "prime whole"},
    "older": {"older_row": "drawing", "widest": "told"},
    "maps": {"is_map": "one other more thing", "plain_map": "drawing", "composed": "first second",
             "summed": "first second times", "is_bridge": "one other more first second thing", "is_paper": "one other thing",
             "paper_back": "paper", "papers_joined": "one other"},
    "dots": {"dotted": "drawing arc", "dots_bridge": "drawing one other"},
    "papers": {"move_paper": "drawing move", "row_paper": "drawing row"}, "alikes": {"alike_paper": "one other"},
    "longs": {"long_rooms": "prime drawing arc", "long_whole": "drawing arc"},
    "makings": {"side_by_side": "one other", "joined_at": "one arc other mate", "rooms_product": "first second",
                "whole_product": "first second", "mirrored_whole": "whole"},
    "partings": {"parted": "drawing crossing", "exchanged": "drawing crossing", "ring_ranks": "prime drawing crossing"},
    "alternates": {"is_alternate": "drawing", "idle_crossings": "drawing", "alternated": "drawing parity"},
    "webs": {"web_rows": "drawing", "woven": "rows"},
    "shadeforms": {"shade_form": "drawing shade", "form_sign": "rows", "signature": "drawing", "determinant": "drawing"},
    "webtrees": {"trees": "drawing", "tree_spot": "drawing tree", "tree_spots": "drawing"},
    "twolines": {"halved_row": "row", "told_by_trees": "drawing"},
    "rules": {"rule_step": "prime rule drawing state", "rule_kind": "prime rule"},
    "spreads": {"spread": "prime rule drawing"}, "leftovers": {"rule_left": "prime rule drawing"},
    "ownsums": {"own_choice": "drawing", "own_hues": "drawing", "own_sum": "prime drawing", "s_number": "prime drawing"},
    "ringbounds": {"ring_bounds": "drawing"},
    "fades": {"fades": "prime drawing", "longest_fade": "prime drawing", "rooms_by_fades": "told",
              "exchange_bound": "prime drawing"},
    "ruleways": {"moved_rule": "prime rule number", "scaled_rule": "prime rule number", "rule_way": "prime one other"},
    "matchings": {"matchings": "places", "sheets": "one other"},
    "surfaces": {"put_behind": "prime one two three first second"},
    "patches": {"Patch": "crossings rim rings", "patch_of": "drawing", "drawing_of": "patch"},
    "chains": {"Chain": "prime places entries steps", "chain_of": "prime patch"},
    "joins": {"patch_beside": "one other", "patch_turned": "patch many", "patch_tied": "patch place",
              "patch_mirrored": "patch"},
    "leasts": {"least_numbers": "chain", "is_least": "chain"},
    "gluing": {"chain_beside": "one other", "chain_turned": "chain many", "chain_mirrored": "chain",
               "chain_tied": "chain place", "patch_numbers": "prime patch", "rooms_glued": "prime drawing"},
    "leastpapers": {"is_least_paper": "chain paper", "least_paper": "chain"}, "between": {"maps_between": "one other"},
    "twists": {"twist_row": "many"},
    "odd": {"square_kind": "drawing arrows choice one other", "odd_signs": "drawing arrows",
            "odd_step_rows": "drawing arrows height weight"},
    "oddrooms": {"odd_rooms": "prime drawing arrows", "odd_whole_rooms": "drawing arrows"},
    "oddlong": {"long_odd_rooms": "prime drawing arrows arc", "long_odd_whole": "drawing arrows arc"},
    "films": {"is_event": "thing", "event_done": "drawing event", "film_end": "drawing film", "film_number": "film",
              "film_weight": "film", "film_back": "film"},
    "filmmaps": {"film_map": "prime drawing film height weight", "closed_number": "film"},
    "filmtables": {"film_table": "drawing film"},
    "filmranks": {"film_ranks": "prime drawing film", "dot_ranks": "prime drawing index"},
    "live": {"started": "start", "is_deed": "thing", "LiveDrawing": "start"},
    "drawtexts": {"drawing_text": "drawing", "drawing_of_text": "text"},
    "deedtexts": {"start_text": "start", "start_of_text": "text", "deed_text": "deed", "deed_of_text": "text"},
    "journals": {"journal_text": "live", "led_live": "text"}, "desk": {"Desk": "start"}}
METHODS = {LiveDrawing: {"do": "deed", "deeds": "", "undo": "", "redo": "", "told": "", "watch": "name prime",
                         "unwatch": "name", "watched": "", "mark": "name", "marks": "", "marked": "name", "since": "name"},
           Desk: {"say": "line"}}

CHAIN = chain_of(3, braid_patch(2, [1, -1]))
PAPER = least_paper(CHAIN)
FILM = [("birth", 0), ("dot", 0), ("shed", 0, 1)]
ONE_RING = ("drawing", [], 1)
# For each function some arguments that it takes; lists, where lists may stand.
CALLS = {
    "ways": (TREFOIL,), "way_count": (RINGS,), "linking": (HOPF, 0, 1), "pieces": (TREFOIL,), "faces": (EIGHT,),
    "shades": (EIGHT,), "mirrored": (HOPF,), "turned_about": (HOPF,), "way_turned": (HOPF, 1), "in_order": (HOPF, [1, 0]),
    "renamed": (KINK, {0: 5, 1: 7}), "alike": (HOPF, TREFOIL), "kinked": (HOPF, 0, 1, 0), "ring_kinked": (RINGS, -1),
    "unkinked": (KINK, 0), "laid_over": (HOPF, (0, 0), (2, 0)), "pulled_off": (closed_braid(2, [1, -1]), 0, 1),
    "slid": (closed_braid(3, [1, 2, 1]), 1), "closed_braid": (3, [1, -2]), "smoothed": (HOPF, (0, 1)), "edge": (HOPF, (0, 1), 0),
    "states": (HOPF, 0, 2), "step_rows": (HOPF, 0, 2), "rooms": (3, HOPF), "whole_rooms": (TREFOIL,),
    "rooms_of": (2, whole_rooms(TREFOIL)), "older_row": (TREFOIL,), "widest": (rooms(3, TREFOIL),),
    "is_map": (KINK, KINK, 0, plain_map(KINK)), "plain_map": (KINK,), "composed": (plain_map(KINK), plain_map(KINK)),
    "summed": (plain_map(KINK), plain_map(KINK), 2), "is_bridge": (KINK, KINK, 0, plain_map(KINK), plain_map(KINK), {}),
    "is_paper": (KINK, KINK, (plain_map(KINK), plain_map(KINK), {}, {})), "paper_back": (move_paper(KINK, ("unkinked", 0))[2],),
    "papers_joined": (move_paper(KINK, ("unkinked", 0))[2], move_paper(Drawing([], 1), ("ring_kinked", 1))[2]),
    "dotted": (HOPF, 0), "dots_bridge": (TREFOIL, 0, 3), "move_paper": (KINK, ("unkinked", 0)),
    "row_paper": (KINK, [("unkinked", 0), ("ring_kinked", -1)]), "alike_paper": (KINK, KINK), "long_rooms": (2, TREFOIL, 0),
    "long_whole": (TREFOIL, 0), "side_by_side": (HOPF, KINK), "joined_at": (HOPF, 0, KINK, 1),
    "rooms_product": (rooms(2, HOPF), rooms(2, KINK)), "whole_product": (whole_rooms(TREFOIL), whole_rooms(TREFOIL)),
    "mirrored_whole": (whole_rooms(TREFOIL),), "parted": (TREFOIL, 1), "exchanged": (TREFOIL, 1), "ring_ranks": (3, HOPF, 0),
    "is_alternate": (HOPF,), "idle_crossings": (KINK,), "alternated": (HOPF, 1), "web_rows": (TREFOIL,),
    "woven": ([[0, 1], [0, 1], []],), "shade_form": (EIGHT, 0), "form_sign": ([[2, 1], [1, 2]],), "signature": (EIGHT,),
    "determinant": (EIGHT,), "trees": (EIGHT,), "tree_spot": (TREFOIL, (0,)), "tree_spots": (EIGHT,),
    "halved_row": ({-1: 1, 1: 1},), "told_by_trees": (EIGHT,), "rule_step": (3, (0, 1), HOPF, ((0, 0), (1, 1))),
    "rule_kind": (5, (1, 0)), "spread": (3, (1, 0), HOPF), "rule_left": (3, (0, 1), HOPF), "own_choice": (EIGHT,),
    "own_hues": (EIGHT,), "own_sum": (3, EIGHT), "s_number": (2, EIGHT), "ring_bounds": (EIGHT,), "fades": (2, TREFOIL),
    "longest_fade": (2, TREFOIL), "rooms_by_fades": ({(0, 1): (1, (1, 2))},), "exchange_bound": (2, TREFOIL),
    "moved_rule": (5, (1, 0), 3), "scaled_rule": (5, (1, 0), 3), "rule_way": (5, (1, 0), (0, 1)), "matchings": (6,),
    "sheets": ((1, 0, 3, 2), (3, 2, 1, 0)), "patch_of": (HOPF,), "drawing_of": (patch_of(HOPF),),
    "put_behind": (3, (1, 0), (1, 0), (1, 0), (((), 1),), (((0,), 2),)), "chain_of": (3, CROSS), "patch_beside": (CROSS, STRAND),
    "patch_turned": (CROSS, 3), "patch_tied": (CROSS, 0), "patch_mirrored": (CROSS,), "least_numbers": (CHAIN,),
    "is_least": (CHAIN,), "chain_beside": (CHAIN, CHAIN), "chain_turned": (CHAIN, 1), "chain_mirrored": (CHAIN,),
    "chain_tied": (CHAIN, 2), "patch_numbers": (2, CROSS), "rooms_glued": (2, EIGHT), "is_least_paper": (CHAIN, PAPER),
    "least_paper": (CHAIN,), "maps_between": (CHAIN, CHAIN), "twist_row": (-3,),
    "square_kind": (TREFOIL, None, (0, 0, 0), 0, 1), "odd_signs": (TREFOIL, (0, 1, 0)), "odd_step_rows": (HOPF, None, 0, 2),
    "odd_rooms": (3, HOPF, None), "odd_whole_rooms": (TREFOIL, None), "long_odd_rooms": (3, HOPF, (1, 0), 0),
    "long_odd_whole": (TREFOIL, None, 2), "is_event": (("birth", 0),), "event_done": (HOPF, ("shed", 0, 0)),
    "film_end": (HOPF, FILM), "film_number": (FILM,), "film_weight": (FILM,), "film_back": (FILM,),
    "film_map": (3, HOPF, FILM, 0, 2), "closed_number": ([("birth", 0), ("death", 0)],), "film_table": (HOPF, FILM),
    "film_ranks": (2, HOPF, FILM), "dot_ranks": (2, HOPF, 1), "started": (ONE_RING,), "is_deed": (("beside", ONE_RING),),
    "drawing_text": (HOPF,), "drawing_of_text": ("drawing 3",), "start_text": (ONE_RING,), "start_of_text": ("braid 2 1",),
    "deed_text": (("beside", ONE_RING),), "deed_of_text": ("beside braid 2 1",), "journal_text": (LiveDrawing(ONE_RING),),
    "led_live": ("live braid 2\nmirror",)}


def seen(thing):
    """A thing as plain values, own objects told by their attributes."""
    if isinstance(thing, (list, tuple)):
        return (type(thing).__name__, [seen(one) for one in thing])
    if isinstance(thing, dict):
        return ("dict", [(seen(key), seen(worth)) for key, worth in thing.items()])
    if type(thing).__module__.startswith("ringcubes"):
        return (type(thing).__name__, seen(vars(thing)))
    return thing


def emptied(thing):
    """Empty all lists and dicts that a thing is made of."""
    if isinstance(thing, (list, tuple)):
        for one in thing:
            emptied(one)
    if isinstance(thing, dict):
        for one in thing.values():
            emptied(one)
    if isinstance(thing, (list, dict)):
        thing.clear()


def function(name, word):
    """A function or class of the interface."""
    return getattr(importlib.import_module("ringcubes." + name), word)


class InterfaceTest(unittest.TestCase):
    def test_all_names_stand_in_their_files(self):
        self.assertEqual({name: told.split() for name, told in INTERFACE.items()},
                         {name: list(table) for name, table in PARAMETERS.items()})
        for name, table in PARAMETERS.items():
            for word in table:
                self.assertEqual(function(name, word).__module__, "ringcubes." + name)
                self.assertEqual(function(name, word).__name__, word)

    def test_parameters(self):
        for name, table in PARAMETERS.items():
            for word, told in table.items():
                kinds = inspect.signature(function(name, word)).parameters
                self.assertEqual(list(kinds), told.split(), word)
                for kind in kinds.values():
                    self.assertEqual((kind.kind, kind.default), (kind.POSITIONAL_OR_KEYWORD, kind.empty), word)

    def test_methods(self):
        for kind, table in METHODS.items():
            for word, told in table.items():
                self.assertIn(word, vars(kind))
                self.assertEqual(list(inspect.signature(vars(kind)[word]).parameters), ["self"] + told.split())

    def test_attributes(self):
        for thing, words in ((HOPF, "crossings rings arcs plus minus"), (CROSS, "crossings rim rings arcs plus minus"),
                             (CHAIN, "prime places entries steps"), (LiveDrawing(ONE_RING), "start drawing standing"),
                             (Desk(ONE_RING), "live")):
            for word in words.split():
                self.assertIn(word, vars(thing))


class CallsTest(unittest.TestCase):
    def each(self):
        for name, table in PARAMETERS.items():
            for word in table:
                if word not in ("Drawing", "Patch", "Chain", "LiveDrawing", "Desk"):
                    yield function(name, word), CALLS[word], table[word].split()

    def test_nothing_handed_in_is_changed(self):
        for call, args, _ in self.each():
            before = seen(args)
            first = call(*args)
            self.assertEqual(seen(args), before, call)
            emptied(first)
            self.assertEqual(seen(args), before, call)

    def test_equal_arguments_have_equal_answers(self):
        for call, args, names in self.each():
            first = seen(call(*args))
            emptied(call(*copy.deepcopy(args)))
            self.assertEqual(seen(call(*copy.deepcopy(args))), first, call)
            self.assertEqual(seen(call(**dict(zip(names, args)))), first, call)

    def test_a_tuple_will_do_for_a_list(self):
        for call, args, _ in self.each():
            if any(isinstance(arg, list) for arg in args):
                tuples = [tuple(tuple(one) if isinstance(one, list) else one for one in arg) if isinstance(arg, list) else arg
                          for arg in args]
                self.assertEqual(seen(call(*tuples)), seen(call(*args)), call)

    def test_dicts_are_ascending(self):
        for word in ("rooms", "whole_rooms", "older_row", "tree_spots", "told_by_trees", "fades", "own_sum", "spread", "rule_left",
                     "least_numbers", "patch_numbers", "rooms_glued", "maps_between", "odd_signs", "odd_rooms", "odd_whole_rooms",
                     "long_odd_rooms", "long_odd_whole", "film_ranks", "dot_ranks", "ring_ranks", "long_rooms", "long_whole"):
            call = next(call for call, _, _ in self.each() if call.__name__ == word)
            told = call(*CALLS[word])
            self.assertEqual(list(told), sorted(told), word)

    def test_rows_and_tables_are_tuples(self):
        for word in ("step_rows", "odd_step_rows", "film_map", "shade_form", "web_rows", "parted"):
            call = next(call for call, _, _ in self.each() if call.__name__ == word)
            told = call(*CALLS[word])
            self.assertIs(type(told), tuple)
            self.assertTrue(all(type(row) is tuple for row in told), word)


class EqualTest(unittest.TestCase):
    def test_objects_are_equal_to_no_other_kind(self):
        things = (NOTHING, Patch([], [], 0), Chain(2, 0, [], []), LiveDrawing(ONE_RING), Desk(ONE_RING))
        others = (None, 0, (), [], {}, "", ((), 0), ((), (), 0), (2, 0, (), ()))
        for at, thing in enumerate(things):
            self.assertTrue(thing == thing)
            for other in others + things[:at] + things[at + 1:]:
                self.assertFalse(thing == other)
                self.assertTrue(thing != other)

    def test_states_are_judged_by_kinds(self):
        table = {state: {state: 1} for state in states(KINK, 0, 1)}
        self.assertTrue(same_kinds(table, {((0,), (-1, 1)): {((0,), (-1, 1)): 1}, ((0,), (1, -1)): {((0,), (1, -1)): 1}}))


if __name__ == "__main__":
    unittest.main()
