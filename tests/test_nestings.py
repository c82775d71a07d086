"""Nestings (points 1, 2 and 5)."""

import inspect
import itertools
import unittest

from cases import (HUGE, NO_NUMBERS, ROW, TWELVE, cases_of_every_length, check_arguments, check_fresh,
                   histories_by_nesting, histories_of, long_cases, nested, nesting_of, repr_of, small_rows)
from putinside import nestings
from putinside.errors import NoBox
from putinside.nestings import (around, evidence, holders, inside, is_nesting, nesting_after, shows_evidence,
                                stretch)

WORDS = {
    "nesting_after": ["row", "history"],
    "is_nesting": ["row", "thing"],
    "evidence": ["row", "claim"],
    "shows_evidence": ["row", "claim", "thing"],
    "inside": ["row", "nesting", "place"],
    "around": ["row", "nesting", "place"],
    "stretch": ["row", "nesting", "place"],
    "holders": ["row", "place"],
}

CLAIMS = [
    ((2, 4, 1, 3), (1, None, 3, 1)),
    ((2, 1, 3, 4), (2, 2, 3, None)),
    ((2, 3, 1, 4), (2, None, None, None)),
    ((1, 2, 3), (2, None, None)),
    ((1, 2, 3), (1, 0, 1)),
    ((2, 1), (1, 0)),
    ((1, 3, 2, 4), (3, None, 1, None)),
    ((3, 1, 4, 2), (None, 2, None, 0)),
    ((5, 1, 2, 3, 4), (None, 4, 0, 4, None)),
    (TWELVE, (1, None, 0, 1, 3, 1, 3, 8, 1, 8, 8, 10)),
    (TWELVE, (1, None, 3, 5, 3, 1, 7, 8, 1, 10, 8, 10)),
    (TWELVE, (None, 0, 1, 2, 3, 4, 5, 6, 7, 8, 9, 10)),
    (TWELVE, (11, None, 1, 1, 1, 1, 1, 1, 1, 1, 1, 1)),
]


def claims_of(row):
    """All claims for the row."""
    many = len(row)
    return itertools.product(*[[None] + [other for other in range(many) if other != place] for place in range(many)])


def content(claim, place):
    """The places of the box and of all that is in it: those from which it is reached by going outwards."""
    found = []
    for start in range(len(claim)):
        at, passed = start, []
        while at is not None and at not in passed:
            passed.append(at)
            at = claim[at]
        if place in passed:
            found.append(start)
    return found


def true_pairs(row, claim):
    """All evidence against the claim, the pair with which evidence answers first."""
    small = [("small", place) for place in range(len(row))
             if claim[place] is not None and not row[claim[place]] > row[place]]
    if small:
        return small
    found = []
    for place in range(len(row)):
        boxes = content(claim, place)
        if boxes != list(range(boxes[0], boxes[-1] + 1)):
            found.append(("apart", place))
    return found


def small_claims():
    for row in small_rows():
        if len(row) <= 4 or row in [(2, 5, 1, 4, 3), (4, 1, 5, 2, 3)]:
            for claim in claims_of(row):
                yield row, claim


def all_cases():
    yield from long_cases()
    yield from cases_of_every_length()


class InterfaceTest(unittest.TestCase):
    def test_names_and_parameters(self):
        for name, words in WORDS.items():
            with self.subTest(name):
                self.assertEqual(list(inspect.signature(getattr(nestings, name)).parameters), words)
                self.assertEqual(getattr(nestings, name).__module__, "putinside.nestings")

    def test_examples_of_the_document(self):
        self.assertEqual(nesting_after(ROW, [2, 0, 1]), (1, None, 3, 1))
        self.assertIs(is_nesting(ROW, (1, None, 3, 1)), True)
        self.assertIs(evidence((2, 1, 3, 4), (2, 2, 3, None)), None)
        self.assertEqual(evidence((2, 3, 1, 4), (2, None, None, None)), ("small", 0))
        self.assertEqual(evidence((1, 2, 3), (2, None, None)), ("apart", 2))
        self.assertEqual(inside(ROW, (1, None, 3, 1), 1), (0, 2, 3))
        self.assertEqual(around(ROW, (1, None, 3, 1), 2), [3, 1])
        self.assertEqual(stretch(ROW, (1, None, 3, 1), 3), (2, 3))
        self.assertEqual(holders(ROW, 2), [1, 3])
        self.assertEqual(holders(ROW, 0), [1])
        self.assertEqual(holders(ROW, 1), [])
        with self.assertRaises(NoBox) as caught:
            holders(ROW, 4)
        self.assertEqual(caught.exception.place, 4)


class NestingAfterTest(unittest.TestCase):
    def test_small_rows(self):
        for row in small_rows():
            for history in histories_of(row):
                self.assertEqual(nesting_after(row, history), nesting_of(row, history))

    def test_gap_after_gap(self):
        for row, history in all_cases():
            self.assertEqual(nesting_after(row, []), (None,) * len(row))
            for many in range(1, len(history) + 1):
                found = nesting_after(row, history[:many])
                self.assertEqual(found, nesting_of(row, history[:many]))
                before = nesting_after(row, history[:many - 1])
                changed = [place for place in range(len(row)) if before[place] != found[place]]
                self.assertEqual([before[place] for place in changed], [None])

    def test_full_history_leaves_the_biggest_box(self):
        for row, history in all_cases():
            if len(history) == len(row) - 1:
                outer = [place for place, above in enumerate(nesting_after(row, history)) if above is None]
                self.assertEqual(outer, [row.index(max(row))])

    def test_a_tuple(self):
        self.assertEqual(repr_of(nesting_after([7], [])), repr_of((None,)))
        self.assertEqual(repr_of(nesting_after([2, 1], [0])), repr_of((None, 0)))
        self.assertEqual(repr_of(nesting_after((1, 2, 3), (1, 0))), repr_of((2, 2, None)))

    def test_order_matters(self):
        self.assertEqual(nesting_after((1, 2, 3), [0, 1]), (1, 2, None))
        self.assertEqual(nesting_after((1, 2, 3), [1, 0]), (2, 2, None))
        self.assertEqual(nesting_after(ROW, [1, 0, 2]), (1, None, 1, 1))


class IsNestingTest(unittest.TestCase):
    def test_claims_that_arise_and_no_others(self):
        arise = {row: histories_by_nesting(row) for row in small_rows()}
        for row, claim in small_claims():
            self.assertIs(is_nesting(row, claim), claim in arise[row])

    def test_all_that_arise_in_small_rows(self):
        for row in small_rows():
            for nesting in histories_by_nesting(row):
                self.assertIs(is_nesting(row, nesting), True)

    def test_nestings_of_every_length(self):
        for row, history in all_cases():
            nesting = nesting_after(row, history)
            self.assertIs(is_nesting(row, nesting), True)
            self.assertIs(is_nesting(list(row), nesting), True)
            self.assertIs(is_nesting(row, list(nesting)), False)
            self.assertIs(is_nesting(row, nesting + (None,)), False)
            self.assertIs(is_nesting(row, nesting[:-1]), False)

    def test_changed_entries(self):
        for row, claim in CLAIMS:
            for place in range(len(row)):
                for above in [None] + [other for other in range(len(row)) if other != place]:
                    changed = claim[:place] + (above,) + claim[place + 1:]
                    self.assertIs(is_nesting(row, changed), true_pairs(row, changed) == [])

    def test_holders_that_do_not_exist(self):
        for wrong in [4, 5, -1, -2, -4, HUGE, -HUGE]:
            for place in range(4):
                thing = (1, None, 3, 1)[:place] + (wrong,) + (1, None, 3, 1)[place + 1:]
                self.assertIs(is_nesting(ROW, thing), False)

    def test_a_box_that_holds_itself(self):
        for place in range(4):
            thing = (None,) * place + (place,) + (None,) * (3 - place)
            self.assertIs(is_nesting(ROW, thing), False)
        self.assertIs(is_nesting((1,), (0,)), False)
        self.assertIs(is_nesting((1,), (None,)), True)

    def test_boxes_in_one_another(self):
        self.assertIs(is_nesting((1, 2), (1, 0)), False)
        self.assertIs(is_nesting((1, 2, 3), (1, 2, 0)), False)

    def test_booleans_in_place_of_numbers(self):
        self.assertIs(is_nesting(ROW, (1, None, None, None)), True)
        self.assertIs(is_nesting(ROW, (True, None, None, None)), False)
        self.assertIs(is_nesting((2, 1), (None, 0)), True)
        self.assertIs(is_nesting((2, 1), (None, False)), False)
        self.assertIs(is_nesting((2, 1), (False, 0)), False)

    def test_other_values_in_place_of_entries(self):
        for wrong in NO_NUMBERS:
            if wrong is not None:
                for thing in [(wrong, None, 3, 1), (1, wrong, 3, 1), (1, None, 3, wrong), (wrong,) * 4]:
                    before = repr_of(thing)
                    self.assertIs(is_nesting(ROW, thing), False)
                    self.assertEqual(repr_of(thing), before)

    def test_no_claims(self):
        things = NO_NUMBERS + [0, 1, -1, HUGE, "1 . 3 1", "1.31", [1, None, 3, 1], ((1, None, 3, 1),),
                               [(1, None, 3, 1)], (1, None, 3), (1, None, 3, 1, None), (None,) * 3, (None,) * 5,
                               (1, (None,), 3, 1), (1, [], 3, 1), nested(16, None), (nested(15, 0),) * 4]
        for thing in things:
            before = repr_of(thing)
            self.assertIs(is_nesting(ROW, thing), False)
            self.assertIs(is_nesting([2, 4, 1, 3], thing), False)
            self.assertEqual(repr_of(thing), before)
        for thing in [(), [], None, [None], "", 0, ((None,),), (None, None)]:
            self.assertIs(is_nesting((1,), thing), False)


class EvidenceTest(unittest.TestCase):
    def test_small_rows(self):
        for row, claim in small_claims():
            self.assertEqual(evidence(row, claim), min(true_pairs(row, claim), default=None))

    def test_claims_for_longer_rows(self):
        for row, claim in CLAIMS:
            self.assertEqual(evidence(row, claim), min(true_pairs(row, claim), default=None))

    def test_never_with_a_nesting(self):
        for row, history in all_cases():
            self.assertIs(evidence(row, nesting_after(row, history)), None)

    def test_always_without_a_nesting(self):
        for row in [(2, 4, 1, 3), (3, 1, 2), (1, 2), (1,)]:
            arise = histories_by_nesting(row)
            for claim in claims_of(row):
                self.assertIs(evidence(row, claim) is None, claim in arise)

    def test_small_comes_before_apart(self):
        self.assertEqual(evidence((1, 2, 3, 4), (2, None, None, 1)), ("small", 3))
        self.assertEqual(evidence((4, 1, 2, 3), (None, 3, 1, 0)), ("small", 2))
        self.assertEqual(evidence((1, 2), (1, 0)), ("small", 1))

    def test_apart_through_what_is_in_it_indirectly(self):
        self.assertEqual(evidence((1, 5, 2, 4, 3), (2, None, 3, None, None)), ("apart", 2))
        self.assertEqual(evidence((1, 4, 3, 2), (2, None, 1, None)), ("apart", 2))
        self.assertEqual(evidence((1, 3, 2, 4), (3, None, 1, None)), ("apart", 3))

    def test_a_pair_or_none(self):
        for row, claim in CLAIMS:
            found = evidence(row, claim)
            if found is not None:
                self.assertEqual((type(found), type(found[0]), type(found[1])), (tuple, str, int))
        self.assertIs(evidence((5,), (None,)), None)
        self.assertIs(evidence((5,), [None]), None)


class ShowsEvidenceTest(unittest.TestCase):
    def check(self, row, claim, thing, wanted):
        before = repr_of(thing)
        self.assertIs(shows_evidence(row, claim, thing), wanted)
        self.assertIs(shows_evidence(list(row), list(claim), thing), wanted)
        self.assertEqual(repr_of(thing), before)

    def test_all_pairs(self):
        for row, claim in list(small_claims())[::7] + CLAIMS:
            right = true_pairs(row, claim)
            for word in ["small", "apart"]:
                for place in range(-2, len(row) + 2):
                    self.assertIs(shows_evidence(row, claim, (word, place)), (word, place) in right)

    def test_what_evidence_returns(self):
        for row, claim in CLAIMS:
            found = evidence(row, claim)
            self.assertIs(shows_evidence(row, claim, found), found is not None)

    def test_no_evidence_against_nestings(self):
        for row, history in cases_of_every_length():
            nesting = nesting_after(row, history)
            for word in ["small", "apart"]:
                for place in range(len(row)):
                    self.assertIs(shows_evidence(row, nesting, (word, place)), False)

    def test_any_place_for_which_it_is_true(self):
        row, claim = (3, 2, 1, 4), (1, 2, None, None)
        self.check(row, claim, ("small", 0), True)
        self.check(row, claim, ("small", 1), True)
        self.check(row, claim, ("small", 2), False)
        self.check(row, claim, ("small", 3), False)
        row, claim = (3, 4, 1, 2), (None, None, 0, 1)
        self.check(row, claim, ("apart", 0), True)
        self.check(row, claim, ("apart", 1), True)
        self.check(row, claim, ("apart", 2), False)

    def test_apart_only_if_every_holder_is_bigger(self):
        row, claim = (1, 2, 3, 4), (2, None, None, 1)
        self.check(row, claim, ("small", 3), True)
        for place in range(4):
            self.check(row, claim, ("apart", place), False)

    def test_places_that_do_not_exist(self):
        for place in [-1, -2, -3, 3, 4, HUGE, -HUGE]:
            for word in ["small", "apart"]:
                self.check((1, 2, 3), (2, None, None), (word, place), False)
                self.check((1, 2, 3), (None, 0, 1), (word, place), False)

    def test_other_values(self):
        row, claim = (2, 3, 1, 4), (2, 2, None, None)
        self.check(row, claim, ("small", 0), True)
        self.check(row, claim, ("small", 1), True)
        things = NO_NUMBERS + [
            0, 1, HUGE, "small", "apart", "small 0", ("small",), (0,), ("small", 0, 0), ("small", 0, None),
            ["small", 0], ["small", 1], (0, "small"), ("Small", 0), ("small ", 0), ("", 0), ("smal", 0), (None, 0),
            (True, 1), ("small", "0"), ("small", False), ("small", True), ("small", None), ("small", (0,)),
            ("small", [0]), (("small", 0),), [("small", 0)], (("small",), 0), (["small"], 0), ("small", ("small", 0)),
            ("both", 0), ("none", None), (0, 0), ("small", nested(15, 0)), (nested(15, "small"), 0), "s0",
        ]
        for thing in things:
            self.check(row, claim, thing, False)

    def test_other_values_where_a_box_lies_apart(self):
        row, claim = (4, 3, 1, 2), (None, None, 0, 1)
        self.check(row, claim, ("apart", 1), True)
        self.check(row, claim, ("apart", 0), True)
        for thing in NO_NUMBERS + ["apart", ["apart", 1], ("apart", True), ("apart", False), ("apart", 1, 1),
                                   ("apart",), (("apart", 1),), ("Apart", 1), ("apart", "1"), ("apart", [1])]:
            self.check(row, claim, thing, False)


class PlacesTest(unittest.TestCase):
    def check_nesting(self, row, nesting):
        for place in range(len(row)):
            boxes = content(nesting, place)
            within = inside(row, nesting, place)
            self.assertEqual(repr_of(within), repr_of(tuple(box for box in boxes if box != place)))
            self.assertEqual(repr_of(stretch(row, nesting, place)), repr_of((boxes[0], boxes[-1])))
            outwards = around(row, nesting, place)
            self.assertIs(type(outwards), list)
            chain = [place] + outwards + [None]
            self.assertEqual([nesting[box] for box in chain[:-1]], chain[1:])

    def test_small_rows(self):
        for row in small_rows():
            if len(row) < 5 or row[2] == 5:
                for nesting in histories_by_nesting(row):
                    self.check_nesting(row, nesting)

    def test_every_length(self):
        for row, history in all_cases():
            self.check_nesting(row, nesting_after(row, history))

    def test_each_is_in_those_around_it(self):
        for row, history in cases_of_every_length():
            nesting = nesting_after(row, history)
            for place in range(len(row)):
                for other in range(len(row)):
                    self.assertIs(place in inside(row, nesting, other), other in around(row, nesting, place))

    def test_outer_and_empty_boxes(self):
        self.assertEqual(inside((7,), (None,), 0), ())
        self.assertEqual(around((7,), (None,), 0), [])
        self.assertEqual(stretch((7,), (None,), 0), (0, 0))
        self.assertEqual(inside(ROW, (None,) * 4, 3), ())
        self.assertEqual(around(ROW, (None,) * 4, 3), [])
        self.assertEqual(stretch(ROW, (None,) * 4, 3), (3, 3))

    def test_no_such_box(self):
        for row, history in [((7,), []), ((2, 1), [0]), (ROW, [2]), (TWELVE, list(range(11)))]:
            nesting = nesting_after(row, history)
            for place in [-1, -2, -len(row), -len(row) - 1, len(row), len(row) + 1, 12, 13, HUGE, -HUGE]:
                for function in [inside, around, stretch]:
                    with self.assertRaises(NoBox) as caught:
                        function(row, nesting, place)
                    self.assertEqual(vars(caught.exception), {"place": place})
                with self.assertRaises(NoBox) as caught:
                    holders(row, place)
                self.assertEqual(vars(caught.exception), {"place": place})


class HoldersTest(unittest.TestCase):
    def test_against_all_full_histories(self):
        for row in small_rows():
            found = [set() for _ in row]
            for history in itertools.permutations(range(len(row) - 1)):
                for place, above in enumerate(nesting_of(row, history)):
                    if above is not None:
                        found[place].add(above)
            for place in range(len(row)):
                self.assertEqual(repr_of(holders(row, place)), repr_of(sorted(found[place])))

    def test_longer_rows(self):
        for row, _ in all_cases():
            for place in range(len(row)):
                wanted = []
                for other in range(len(row)):
                    between = row[min(place, other) + 1:max(place, other)]
                    if row[other] > max((row[place],) + between):
                        wanted.append(other)
                self.assertEqual(holders(row, place), wanted)

    def test_one_box(self):
        self.assertEqual(holders((7,), 0), [])

    def test_biggest_box(self):
        for row, _ in cases_of_every_length():
            self.assertEqual(holders(row, row.index(max(row))), [])


class ArgumentsTest(unittest.TestCase):
    """Point 2."""

    def test_kinds_and_names(self):
        nesting = (1, None, 3, 1)
        calls = [
            ("nesting_after", [ROW, [2, 0, 1]]), ("nesting_after", [(7,), []]),
            ("is_nesting", [ROW, nesting]), ("is_nesting", [ROW, list(nesting)]),
            ("evidence", [ROW, nesting]), ("evidence", [(1, 2, 3), (2, None, None)]),
            ("evidence", [(2, 3, 1, 4), (2, None, None, None)]),
            ("shows_evidence", [(1, 2, 3), (2, None, None), ("apart", 2)]),
            ("shows_evidence", [(1, 2, 3), (2, None, None), ["apart", 2]]),
            ("inside", [ROW, nesting, 1]), ("around", [ROW, nesting, 2]), ("stretch", [ROW, nesting, 3]),
            ("holders", [ROW, 2]),
        ]
        self.assertEqual({name for name, _ in calls}, set(WORDS))
        for name, values in calls:
            with self.subTest(name):
                check_arguments(self, getattr(nestings, name), WORDS[name], values)

    def test_changed_results(self):
        check_fresh(self, around, ROW, (1, None, 3, 1), 2)
        check_fresh(self, around, ROW, (1, None, 3, 1), 1)
        check_fresh(self, holders, ROW, 2)
        check_fresh(self, holders, ROW, 1)

    def test_changed_arguments(self):
        row, history = [2, 4, 1, 3], [2, 0, 1]
        nesting = nesting_after(row, history)
        row.reverse()
        history.pop()
        self.assertEqual(nesting, (1, None, 3, 1))
        given = list(nesting)
        found = around(ROW, given, 2)
        given[2] = None
        self.assertEqual(found, [3, 1])

    def test_far_beyond_the_bounds(self):
        many = 1500
        row = tuple(range(1, many + 1))
        nesting = tuple(range(1, many)) + (None,)
        self.assertEqual(nesting_after(row, list(range(many - 1))), nesting)
        self.assertIs(is_nesting(row, nesting), True)
        self.assertEqual(around(row, nesting, 0), list(range(1, many)))
        self.assertEqual(inside(row, nesting, many - 1), tuple(range(many - 1)))
        self.assertEqual(stretch(row, nesting, many - 2), (0, many - 2))
        self.assertEqual(holders(row, 0), list(range(1, many)))
        self.assertEqual(evidence(row, (many - 1,) + (None,) * (many - 1)), ("apart", many - 1))


if __name__ == "__main__":
    unittest.main()
