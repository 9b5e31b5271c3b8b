import unittest

from calls import CallTest, bent, exchanged
from cellyards.blind import blind, blind_paper, is_blind_paper
from cellyards.errors import InvalidYard
from cellyards.yards import Yard
from judges import (
    behind, dead_cells, first_set, is_live, judged_blind_paper, left_by, led_for, one_move, ranks_let_out, set_behind,
    sets_of,
)
from samples import (
    BIG, THINGS, bad_yards, counter, dead_end_yards, full, lane, loops, many_lines, many_sets, mixed_yards,
    no_way_yards, parts_of, rich_yards, sample_yards, siding, small_yards, stub, turntable,
)

STRANGE = [
    None, True, False, 0, 1, -1, "", "good", "bad", (), [], {}, {"a": ()}, Yard(1), ((),), ((), ()), [(), ()],
    ((), (), 1, 0), (((0, 0, 0),), ((0, 0, 0),)), (((0, 0, 0),), (0, 0, 0), 1, 0), ((0, 0, 0), 1), (1, 2, 3, 4),
    ("good", ()), (Yard(1), Yard(2)), ((True,), (False,)), (((True, 0, 0),), ()), ((None,), (None,)), "00", b"00",
]


def moved(paper, at, place, item):
    """A paper with another item at a place in one of its pairs or rows."""
    kind, rows = paper
    return kind, exchanged(rows, at, exchanged(rows[at], place, item))


class BlindTest(CallTest):
    yards = [
        *sample_yards(), *small_yards(), *mixed_yards(), *rich_yards(), *bad_yards(), *dead_end_yards(),
        *no_way_yards(), full(4), stub(4), counter(4),
    ]
    # Yards with few sets, so that a paper is bent in all ways.
    good = [lane(2), stub(2), counter(2), stub(3), turntable(), Yard(1), siding(), dead_end_yards()[3]]
    bad = bad_yards()[:4]

    def agrees(self, yard, thing):
        expected = judged_blind_paper(yard, thing)
        self.assertIs(is_blind_paper(yard, thing), expected, thing)
        return expected


class TestBlind(BlindTest):
    def test_just_if_its_paper_is_good(self):
        kinds = {"good": 0, "bad": 0}
        for yard in self.yards:
            answer = self.quick(blind, yard)
            kind, rows = paper = self.quick(blind_paper, yard)
            # What the judge says of the paper is a proof.
            self.assertIs(judged_blind_paper(yard, paper), True, parts_of(yard))
            self.assertIs(answer, kind == "good")
            kinds[kind] += 1
        self.assertGreater(kinds["good"], 50)
        self.assertGreater(kinds["bad"], 15)

    def test_how_many_ranks_are_let_out_by_trying(self):
        for yard in self.yards:
            if blind(yard):
                self.assertIs(led_for(yard, 6), True)
            else:
                self.assertIs(led_for(yard, 12), False)

    def test_some(self):
        for yard in [*no_way_yards(), lane(1), lane(4), stub(1), stub(4), counter(4), full(4), turntable(), siding()]:
            self.assertIs(blind(yard), True)
        for yard in [*rich_yards(), *bad_yards()]:
            self.assertIs(blind(yard=yard), False)

    def test_why_one_cannot_be_led(self):
        yard = bad_yards()[0]
        self.assertEqual(ranks_let_out(yard, first_set(yard)), [1, 2, 3])
        # One rank can be let out, whatever it is, but not so that each next one can be, too.
        self.assertIs(led_for(yard, 1), True)
        self.assertIs(led_for(yard, 2), False)

    def test_small_yards_can_all_be_led(self):
        for yard in small_yards():
            self.assertIs(blind(yard), True)

    def test_wrong_yards(self):
        for thing in (None, True, 1, (), [Yard(1)], "yard"):
            self.fails(InvalidYard, "thing", thing, blind, thing)
            self.fails(InvalidYard, "thing", thing, blind_paper, thing)
            self.fails(InvalidYard, "thing", thing, is_blind_paper, thing, ("good", ()))


class TestBlindPaper(BlindTest):
    def test_it_is_one(self):
        for yard in self.yards:
            paper = blind_paper(yard)
            self.assertIs(type(paper), tuple)
            self.assertIs(type(paper[1]), tuple)
            self.assertIs(self.quick(is_blind_paper, yard, paper), True)
            self.assertEqual(blind_paper(yard=yard), paper)
            other = "bad" if paper[0] == "good" else "good"
            self.assertIs(is_blind_paper(yard, (other, paper[1])), False)

    def test_yards_through_which_no_wagon_passes(self):
        for yard in no_way_yards():
            kind, pairs = blind_paper(yard)
            self.assertEqual(kind, "good")
            self.assertIn((0,) * yard.cells, dict(pairs)[first_set(yard)])
        self.assertIs(is_blind_paper(Yard(1), ("good", ((((0,),), ((0,),)),))), True)
        self.assertIs(is_blind_paper(Yard(1), ("bad", ((((0,),), (0,), 1, 0),))), False)
        yard = Yard(1, exits=[0])
        self.assertIs(is_blind_paper(yard, ("bad", ((((0,),), (0,), 0, 0),))), False)

    def test_the_paper_of_another_yard(self):
        yards = [*self.good, *self.bad, *bad_yards(), *rich_yards()[3:5], *small_yards()[::5]]
        papers = [blind_paper(yard) for yard in yards]
        for yard in yards:
            right = [self.agrees(yard, paper) for paper in papers]
            self.assertIn(True, right)
            self.assertIn(False, right)


class TestIsBlindPaper(BlindTest):
    def test_bent_papers(self):
        for yard in self.good + self.bad:
            kind, rows = paper = blind_paper(yard)
            strange = STRANGE if yard.cells < 4 else STRANGE[::4]
            for thing in bent(rows, [*strange, *rows]):
                self.agrees(yard, (kind, thing))
            for thing in bent(paper, [*strange, kind, rows, ("good", rows), ("bad", rows)]):
                self.agrees(yard, thing)
            for at, row in enumerate(rows):
                for thing in bent(row, [*strange, *row]):
                    self.agrees(yard, (kind, exchanged(rows, at, thing)))

    def test_other_lots(self):
        right = []
        for yard in self.good:
            paper = blind_paper(yard)
            for at, (row, lot) in enumerate(paper[1]):
                members = list(row) + [(0,) * (yard.cells + 1), (yard.cells,) * yard.cells, [0], None, True, 0]
                lots = list(bent(lot, members)) + [row, row[::-1], lot + lot, row[:1], row[-1:], ()]
                right.extend([self.agrees(yard, moved(paper, at, 1, other)) for other in lots])
        self.assertGreater(right.count(True), 20)
        self.assertGreater(right.count(False), 200)

    def test_other_sets(self):
        for yard in self.good + self.bad:
            paper = blind_paper(yard)
            for at, (row, *_) in enumerate(paper[1]):
                others = list(bent(row, [row[0], row[-1], None, [0], (True,) * yard.cells])) + sorted(sets_of(yard))
                for other in others:
                    self.agrees(yard, moved(paper, at, 0, other))

    def test_each_set_at_most_once(self):
        for yard in self.good:
            kind, pairs = blind_paper(yard)
            for pair in pairs:
                self.assertIs(is_blind_paper(yard, (kind, pairs + (pair,))), False)
                self.assertIs(is_blind_paper(yard, (kind, pairs + ((pair[0], ()),))), False)
                self.assertIs(is_blind_paper(yard, (kind, ((pair[0], pair[1][:1]),) + pairs)), False)

    def test_pairs_that_are_not_needed(self):
        # A lot may be empty, where nothing is left in it; and the order of the pairs does not count.
        yard = bad_yards()[0]
        pairs = tuple((row, ()) for row in sorted(sets_of(yard)))
        self.agrees(yard, ("good", pairs))
        for yard in self.good:
            kind, pairs = blind_paper(yard)
            self.assertIs(self.agrees(yard, (kind, pairs[::-1])), True)
            others = [row for row in sorted(sets_of(yard)) if row not in dict(pairs)]
            for row in others:
                self.assertIs(self.agrees(yard, (kind, pairs + ((row, ()),))), True)
        # All members of all sets are a good paper of a counter.
        pairs = tuple((row, row) for row in sets_of(counter(2)))
        self.assertIs(self.agrees(counter(2), ("good", pairs)), True)

    def test_the_smallest_lots(self):
        # In a lane of one cell the wagon may come in before its rank is told, or behind that.
        yard = lane(1)
        row = first_set(yard)
        self.assertEqual((row, sets_of(yard)), (((0,), (1,)), {((0,), (1,))}))
        for lot, right in (
            (((0,),), True), (((1,),), False), (((0,), (1,)), True), (((1,), (0,)), False), ((), False),
            (((0,), (0,)), False), ([(0,)], False), (([0],), False), (((False,),), False), (((0,), (True,)), False),
        ):
            self.assertIs(self.agrees(yard, ("good", ((row, lot),))), right)
        self.assertIs(is_blind_paper(yard, ("good", [(row, row)])), False)
        self.assertIs(is_blind_paper(yard, ["good", ((row, row),)]), False)
        self.assertIs(is_blind_paper(yard, ("good", ([row, row],))), False)
        self.assertIs(is_blind_paper(yard, ("good", ((list(row), row),))), False)
        self.assertIs(is_blind_paper(yard, ("good", ((((False,), (1,)), row),))), False)
        self.assertIs(is_blind_paper(yard, ("good", ((((0,), (True,)), row),))), False)
        self.assertIs(is_blind_paper(yard, ("good", ((row, row),), ())), False)

    def test_other_heights(self):
        right = []
        for yard in [*self.bad, *bad_yards()]:
            kind, rows = paper = blind_paper(yard)
            for at, row in enumerate(rows):
                others = [0, 1, 2, 3, 7, -1, BIG, -BIG, True, False, None, "1", (1,), [0], Yard(1)]
                right.extend([self.agrees(yard, moved(paper, at, 3, other)) for other in others])
            changes = [lambda h: h + 1, lambda h: 2 * h, lambda h: h + BIG, lambda h: 0, lambda h: 5]
            for change in [*changes, lambda h: -h, lambda h: h - 1, lambda h: 9 - h]:
                other = tuple(row[:3] + (change(row[3]),) for row in rows)
                right.append(self.agrees(yard, (kind, other)))
            self.assertIs(self.agrees(yard, (kind, tuple(row[:3] + (row[3] + 1,) for row in rows))), True)
            self.assertIs(self.agrees(yard, (kind, tuple(row[:3] + (5,) for row in rows))), False)
        self.assertGreater(right.count(True), 20)
        self.assertGreater(right.count(False), 100)

    def test_other_ranks_and_standings(self):
        for yard in self.bad:
            paper = blind_paper(yard)
            for at, (row, standing, _, _) in enumerate(paper[1]):
                for rank in (0, 1, 2, 3, 4, 5, -1, BIG, True, None, "1", (1,), [1]):
                    self.agrees(yard, moved(paper, at, 2, rank))
                for other in [*row, list(standing), standing + (0,), standing[:-1], (True,) * yard.cells, 0, None]:
                    self.agrees(yard, moved(paper, at, 1, other))
                for x in range(yard.cells):
                    if standing[x] in (0, 1):
                        same = exchanged(standing, x, bool(standing[x]))
                        self.assertEqual(same, standing)
                        self.assertIs(is_blind_paper(yard, moved(paper, at, 1, same)), False)

    def test_rows_that_are_told_again_or_not_needed(self):
        for yard in self.bad:
            kind, rows = blind_paper(yard)
            self.assertIs(self.agrees(yard, (kind, rows + rows)), True)
            self.assertIs(self.agrees(yard, (kind, rows[::-1])), True)
            higher = tuple(row[:3] + (row[3] + 3,) for row in rows)
            self.assertIs(self.agrees(yard, (kind, rows + higher)), True)
            self.assertIs(self.agrees(yard, (kind, higher + rows)), True)
            # A row that does not hold spoils it, even where it is not needed.
            lower = tuple(row[:3] + (0,) for row in rows)
            self.assertIs(self.agrees(yard, (kind, rows + lower)), False)

    def test_rows_for_a_yard_that_can_be_led(self):
        for yard in self.good:
            for row in sorted(sets_of(yard)):
                rows = tuple(
                    (row, standing, rank, 3 - len(left_by(yard, standing, rank)))
                    for standing in row for rank in ranks_let_out(yard, row)
                )
                self.assertIs(self.agrees(yard, ("bad", rows)), False)
        self.assertIs(is_blind_paper(lane(1), ("bad", ())), False)
        self.assertIs(is_blind_paper(lane(1), ("good", ())), False)

    def test_moves_into_dead_cells_are_left_out(self):
        for yard in [*dead_end_yards(), *bad_yards()[3:5]]:
            self.assertTrue(dead_cells(yard))
            for part in blind_paper(yard)[1]:
                self.assertTrue(all(is_live(yard, standing) for standing in part[0]))
            self.assertIs(judged_blind_paper(yard, blind_paper(yard)), True)
        # From the empty standing a move leads into the dead cell: no paper holds what is behind it.
        yard = dead_end_yards()[0]
        self.assertIn((0, 1), one_move(yard, (0, 0)))
        kind, pairs = blind_paper(yard)
        for at, (row, lot) in enumerate(pairs):
            self.assertIs(is_blind_paper(yard, moved((kind, pairs), at, 1, tuple(sorted(lot + ((0, 1),))))), False)
            self.assertIs(is_blind_paper(yard, moved((kind, pairs), at, 0, tuple(sorted(row + ((0, 1),))))), False)

    def test_a_tuple_that_is_no_set_of_the_yard(self):
        # What is behind a part of a set is no set, though it is as good in a within paper.
        yard = counter(2)
        few = ((0, 0), (0, 1))
        self.assertNotIn(few, sets_of(yard))
        kind, pairs = blind_paper(yard)
        self.assertIs(is_blind_paper(yard, (kind, pairs + ((few, few),))), False)
        self.assertIs(is_blind_paper(yard, (kind, pairs + ((few, ()),))), False)
        self.assertIs(is_blind_paper(yard, (kind, pairs + (((), ()),))), False)
        self.assertIn(set_behind(yard, first_set(yard), 2), sets_of(yard))
        self.assertEqual(behind(yard, first_set(yard), 3), ())

    def test_anything(self):
        papers = [(lane(2), blind_paper(lane(2))), (self.bad[0], blind_paper(self.bad[0]))]
        for yard, (kind, rows) in papers:
            for thing in [*THINGS, *STRANGE]:
                others = [
                    thing, (thing,), (thing, rows), (kind, thing), (kind, (thing,)), (kind, rows + (thing,)),
                    (kind, rows, thing), [kind, rows], (kind, list(rows)), (kind, ((thing, thing),)),
                    (kind, ((thing, rows[0][1]),)), (kind, ((thing,) * 4,)), (kind, (rows[0][:1] + (thing,) * 3,)),
                ]
                for other in others:
                    self.assertIs(is_blind_paper(yard, other), other == (kind, rows))
                self.assertIs(is_blind_paper(thing=thing, yard=Yard(1)), False)

    def test_great_papers(self):
        for yard in (many_sets(), many_lines(), loops(), full(4), counter(4), *rich_yards()[10:11], *mixed_yards()[-5:]):
            kind, rows = blind_paper(yard)
            self.assertIs(self.quick(is_blind_paper, yard, (kind, rows * 100)), kind == "bad" or rows == ())
            self.assertIs(self.quick(is_blind_paper, yard, (kind, rows[::-1])), True)
            pairs = tuple((row, row) for row in sorted(sets_of(yard)))
            self.assertIs(self.quick(is_blind_paper, yard, ("good", pairs)), judged_blind_paper(yard, ("good", pairs)))
            every = tuple(
                (row, standing, rank, 0) for row in sorted(sets_of(yard)) for standing in row
                for rank in ranks_let_out(yard, row)
            )
            self.assertIs(self.quick(is_blind_paper, yard, ("bad", every)), judged_blind_paper(yard, ("bad", every)))


if __name__ == "__main__":
    unittest.main()
