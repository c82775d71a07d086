"""What holds over the whole program (points 1, 2 and 3)."""

import unittest

from cases import LONG_ROWS, ROW, TWELVE, full_histories, histories_of, mixed, nesting_of, repr_of, small_rows
from putinside.chances import around_chance, holder_chance, mean_depth, mean_inside, together_chance
from putinside.changes import after_step, step_plan, steps, steps_apart
from putinside.counting import (all_nestings, count_nestings, count_outer, count_with, nesting_at,
                                nesting_number)
from putinside.depths import deep_history, fewest_moves, greatest_depth
from putinside.histories import all_histories, count_histories, gap_of, history_at, history_number, needed
from putinside.nestings import (around, evidence, holders, inside, is_nesting, nesting_after, shows_evidence,
                                stretch)
from putinside.rows import is_history, is_row, moves, outer_boxes
from putinside.same import (exchange_plan, exchanges_apart, free_exchanges, same_nesting, shows_exchange_plan)
from putinside.shelf import Shelf
from putinside.sheet import answers
from putinside.texts import history_in, history_text, nesting_in, nesting_text, row_in, row_text

LONGER = LONG_ROWS + [tuple(size + 1 for size in mixed(12, by)) for by in [3, 6, 7, 11]]


def history_for(row):
    """A history that closes about two thirds of the gaps, and one that closes the same ones the other way round."""
    gaps = [gap for gap in mixed(len(row) - 1, 5) if gap % 3 != 1]
    return gaps, gaps[::-1]


def of_nestings(row, nesting):
    """What the functions tell of a nesting of the row."""
    places = range(len(row))
    put_in = [place for place in places if nesting[place] is not None]
    return [
        is_nesting(row, nesting), evidence(row, nesting), shows_evidence(row, nesting, ("small", 0)),
        [inside(row, nesting, place) for place in places], [around(row, nesting, place) for place in places],
        [stretch(row, nesting, place) for place in places], [gap_of(row, nesting, place) for place in put_in],
        [needed(row, nesting, place) for place in put_in], count_histories(row, nesting),
        history_at(row, nesting, count_histories(row, nesting) // 2), steps(row, nesting),
        [after_step(row, nesting, step) for step in steps(row, nesting)], nesting_in(row, nesting_text(nesting)),
        count_with(row, nesting),
    ]


def of_rows(row):
    """What the functions tell of a row but for its sizes."""
    places = range(len(row))
    pairs = [(one, other) for one in places for other in places]
    one, other = history_for(row)
    before, after = nesting_after(row, one), nesting_after(row, other)
    many = count_nestings(row)
    return [
        is_row(row), is_history(row, one), outer_boxes(row, one), moves(row, one), before, after,
        of_nestings(row, before), of_nestings(row, after), [holders(row, place) for place in places],
        history_number(row, one), same_nesting(row, one, other), free_exchanges(row, one),
        exchange_plan(row, one, history_at(row, before, 0)), many, [count_outer(row, outer) for outer in places],
        nesting_at(row, many // 2), nesting_number(row, nesting_at(row, many // 3)),
        [holder_chance(row, *pair) for pair in pairs], [around_chance(row, *pair) for pair in pairs],
        [mean_depth(row, place) for place in places], [mean_inside(row, place) for place in places],
        [together_chance(row, *pair, len(row) // 2) for pair in pairs], step_plan(row, before, after),
        [greatest_depth(row, place) for place in places], [deep_history(row, place) for place in places],
        [fewest_moves(row, *pair) for pair in pairs], history_in(row, history_text(one)),
    ]


def turned(row, nesting):
    """The nesting seen from the other end of the row."""
    last = len(row) - 1
    return tuple(None if above is None else last - above for above in nesting[::-1])


def turned_gaps(row, gaps):
    return [len(row) - 2 - gap for gap in gaps]


class SizesTest(unittest.TestCase):
    """Only the order of the sizes matters."""

    def test_multiplied_and_moved_alike(self):
        for row in list(small_rows())[::4] + LONGER:
            wanted = repr_of(of_rows(row))
            for by, more in [(1, 1), (7, 0), (3, 100), (1, 10 ** 9), (10 ** 6, 5)]:
                self.assertEqual(repr_of(of_rows(tuple(size * by + more for size in row))), wanted)

    def test_on_a_shelf(self):
        for row in LONGER:
            one, other = Shelf(row), Shelf(tuple(size * 5 + 3 for size in row))
            gaps = history_for(row)[0]
            self.assertEqual([one.close(gap) for gap in gaps], [other.close(gap) for gap in gaps])
            self.assertEqual((one.nesting(), one.steps(), one.count()), (other.nesting(), other.steps(), other.count()))


class OtherEndTest(unittest.TestCase):
    def test_histories_and_nestings(self):
        for row in small_rows():
            back = row[::-1]
            for history in histories_of(row):
                nesting, gaps = nesting_after(row, history), turned_gaps(row, history)
                self.assertEqual(nesting_after(back, gaps), turned(row, nesting))
                self.assertEqual(count_histories(back, turned(row, nesting)), count_histories(row, nesting))
                self.assertEqual(free_exchanges(back, gaps), free_exchanges(row, history))
                self.assertEqual(len(steps(back, turned(row, nesting))), len(steps(row, nesting)))

    def test_counts_and_chances(self):
        for row in list(small_rows()) + LONGER:
            back, last = row[::-1], len(row) - 1
            for many in range(len(row) + 1):
                self.assertEqual(count_outer(back, many), count_outer(row, many))
            for place in range(len(row)):
                self.assertEqual(holders(back, last - place), [last - above for above in holders(row, place)][::-1])
                self.assertEqual(mean_depth(back, last - place), mean_depth(row, place))
                self.assertEqual(mean_inside(back, last - place), mean_inside(row, place))
                self.assertEqual(greatest_depth(back, last - place), greatest_depth(row, place))
                for other in range(len(row)):
                    pair, turned_pair = (place, other), (last - place, last - other)
                    self.assertEqual(holder_chance(back, *turned_pair), holder_chance(row, *pair))
                    self.assertEqual(around_chance(back, *turned_pair), around_chance(row, *pair))
                    self.assertEqual(fewest_moves(back, *turned_pair), fewest_moves(row, *pair))

    def test_all_nestings(self):
        for row in small_rows():
            found = {turned(row, nesting) for nesting in all_nestings(row)}
            self.assertEqual(found, set(all_nestings(row[::-1])))

    def test_steps_apart(self):
        for row in LONGER:
            one, other = [nesting_after(row, history) for history in history_for(row)]
            self.assertEqual(steps_apart(row[::-1], turned(row, one), turned(row, other)), steps_apart(row, one, other))


class BiggestBoxBetweenTest(unittest.TestCase):
    """A box that is bigger than all others keeps apart what is at its left and what is at its right."""

    def pairs(self):
        rows = list(small_rows())[::11] + [(), (2, 6, 3, 1, 5, 4)]
        for left in rows:
            for right in rows:
                if left or right:
                    yield left, tuple(size + 20 for size in right)

    def test_counts(self):
        for left, right in self.pairs():
            sides = [sum(count_outer(part, many) for many in range(1, len(part) + 1)) if part else 1
                     for part in (left, right)]
            self.assertEqual(count_nestings(left + (99,) + right), sides[0] * sides[1])

    def test_holders_and_chances(self):
        for left, right in self.pairs():
            row, middle = left + (99,) + right, len(left)
            for one in range(len(left)):
                self.assertEqual(around_chance(row, one, middle), (1, 1))
                for other in range(middle + 1, len(row)):
                    self.assertEqual(holder_chance(row, one, other), (0, 1))
                    self.assertEqual(around_chance(row, other, one), (0, 1))
                    self.assertIs(fewest_moves(row, one, other), None)
            alone = left + (99,)
            for one in range(len(left)):
                self.assertEqual(holders(row, one), holders(alone, one))
                self.assertEqual(mean_depth(row, one), mean_depth(alone, one))
                self.assertEqual(greatest_depth(row, one), greatest_depth(alone, one))

    def test_histories_of_the_two_sides_are_mixed(self):
        for left, right in self.pairs():
            row = left + (99,) + right
            gaps = list(range(len(left))) + list(range(len(row) - 2, len(left) - 1, -1))
            nesting = nesting_after(row, gaps)
            one = count_histories(left + (99,), nesting[:len(left)] + (None,))
            beside = tuple(above - len(left) for above in nesting[len(left) + 1:])
            other = count_histories((99,) + right, (None,) + beside)
            many = 1
            for at in range(1, len(left) + 1):
                many = many * (len(right) + at) // at
            self.assertEqual(count_histories(row, nesting), one * other * many)


class OneMoreBoxTest(unittest.TestCase):
    """One more box at the right end, which stays outer: nothing changes for the others."""

    def test_histories(self):
        for row in list(small_rows())[::3]:
            for size in [row[-1] * 10 + 7, 99, 10 ** 9]:
                longer = row + (size,)
                for history in histories_of(row):
                    nesting = nesting_after(row, history)
                    self.assertEqual(nesting_after(longer, history), nesting + (None,))
                    self.assertEqual(moves(longer, history), moves(row, history))
                    self.assertEqual(history_number(longer, history), history_number(row, history))
                    self.assertEqual(free_exchanges(longer, history), free_exchanges(row, history))
                    self.assertEqual(outer_boxes(longer, history),
                                     outer_boxes(row, history) + [(len(row), len(row), len(row))])

    def test_all_histories_of_nestings(self):
        for row in small_rows():
            nesting = nesting_after(row, full_histories(row)[-1])
            self.assertEqual(all_histories(row + (99,), nesting + (None,)), all_histories(row, nesting))

    def test_a_biggest_box_takes_all(self):
        for row in list(small_rows()) + LONGER:
            every = sum(count_outer(row, many) for many in range(1, len(row) + 1))
            self.assertEqual(count_nestings(row + (10 ** 9 + 1,)), every)

    def test_a_smallest_box(self):
        # It can be in each box that is bigger than all boxes behind it.
        for row in small_rows():
            longer = tuple(size + 1 for size in row) + (1,)
            over = [place for place in range(len(row)) if row[place] == max(row[place:])]
            self.assertEqual(holders(longer, len(row)), over)
            self.assertEqual(greatest_depth(longer, len(row)), len(over))

    def test_on_a_shelf(self):
        for row in LONGER[3:] + [ROW]:
            one, other = Shelf(row), Shelf(row[:-1])
            gaps = [gap for gap in history_for(row)[0] if gap < len(row) - 2]
            one.close_all(gaps)
            other.close_all(gaps)
            self.assertEqual(other.add(row[-1]), len(row) - 1)
            self.assertEqual(one, other)
            self.assertEqual((one.nesting(), one.steps(), one.count()), (other.nesting(), other.steps(), other.count()))


class GuaranteesTest(unittest.TestCase):
    def test_every_order_leads_to_a_full_nesting(self):
        for row in small_rows():
            reached = {nesting_after(row, history) for history in full_histories(row)}
            self.assertEqual(reached, set(all_nestings(row)))
            self.assertEqual(sum(count_histories(row, nesting) for nesting in reached), len(full_histories(row)))

    def test_chances_from_counts(self):
        for row in [ROW, (1, 2, 3, 4, 5), (3, 1, 5, 2, 4)]:
            everything = len(full_histories(row))
            for one in range(len(row)):
                for other in range(len(row)):
                    over, under = holder_chance(row, one, other)
                    many = sum(count_histories(row, nesting) for nesting in all_nestings(row) if nesting[one] == other)
                    self.assertEqual(over * everything, many * under)

    def test_plans_between_all_histories_of_twelve_boxes(self):
        for row in LONGER:
            one, _ = history_for(row)
            nesting = nesting_of(row, one)
            other = history_at(row, nesting, count_histories(row, nesting) - 1)
            plan = exchange_plan(row, one, other)
            self.assertEqual(len(plan), exchanges_apart(row, one, other))
            self.assertIs(shows_exchange_plan(row, one, other, plan), True)


class InTurnTest(unittest.TestCase):
    """Questions that are asked in turn of two rows have the answers that they have alone."""

    def test_functions(self):
        alone = {row: repr_of(of_rows(row)) for row in LONGER}
        for one, other in zip(LONGER, LONGER[1:]):
            for _ in range(2):
                self.assertEqual(repr_of(of_rows(one)), alone[one])
                self.assertEqual(repr_of(of_rows(other)), alone[other])

    def test_function_by_function(self):
        questions = [count_nestings, lambda row: holders(row, 0), lambda row: mean_depth(row, 2),
                     lambda row: deep_history(row, 1), lambda row: nesting_at(row, 0), row_text,
                     lambda row: row_in(row_text(row)), lambda row: count_outer(row, 2)]
        one, other = ROW, TWELVE
        wanted = [(question(one), question(other)) for question in questions]
        for _ in range(3):
            self.assertEqual([(question(one), question(other)) for question in questions], wanted)
        self.assertEqual([question(one) for question in questions], [pair[0] for pair in wanted])

    def test_shelfs_and_sheets(self):
        one, other = Shelf(ROW), Shelf(TWELVE)
        for gap in range(3):
            one.close(gap)
            other.close(10 - gap)
        self.assertEqual((one.history(), other.history()), ([0, 1, 2], [10, 9, 8]))
        text, more = "row 2 4 1 3\nclose 1\nshow", "row 3 1 2\nclose 1\nshow\nadd 8"
        wanted = (answers(text), answers(more))
        self.assertEqual((answers(text), answers(more)), wanted)
        self.assertEqual(wanted, (["2 1", ". . 1 ."], ["1 2", ". 2 .", "3"]))


if __name__ == "__main__":
    unittest.main()
