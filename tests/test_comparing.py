import unittest

from calls import CallTest, bent, exchanged
from cellyards.comparing import is_within, parted, parting, within, within_paper
from cellyards.yards import Yard
from judges import (
    all_orders, all_standings, behind, first_difference, first_set, in_and_road, is_live, is_pair, judged_paper,
    proved_within, whole,
)
from samples import (
    THINGS, counter, full, lane, loops, many_lines, many_sets, mixed_yards, orders_by_trying, parts_of, rich_yards,
    sample_yards, siding, small_yards, stub, turntable, yard_by_number,
)

STRANGE = [
    None, True, False, 0, 1, -1, "", "ab", (), [], {}, {"a": ()}, Yard(1), ((),), ((), ()), [(), ()],
    ((0, 0), ()), ((0, 0), [(0, 0)]), ((0, 0), (0, 0)), ([0, 0], ((0, 0),)), ((True, 0), ((0, 0),)),
    ((0, 0), ((0, False),)), ((0, 0), ((0, 0),), ()), ((0, 0),), ((0, 2), ((0, 0),)), ((0, 0), ((1, 1),)),
    ((0, 0), ((0, 0), None)), ((0, 0), ((0, 0), [0, 0])), ((0, 0), ("00",)), ("00", ((0, 0),)),
    ((0,), ((0, 0),)), ((0, 0), ((0,),)), ((0, 0, 0), ((0, 0),)), ((0, "1"), ((0, 0),)), ((0, None), ((0, 0),)),
    ((0, 0), ((0, -1),)), ((0, 0), ((0, (1,)),)), ((0, [1]), ((0, 0),)), ((0, 0), {"a": 1}), (Yard(2), Yard(2)),
]


def some_yards():
    """All that yards of at most three cells can make, and some that make the same."""
    passed = [
        Yard(3, roads=[(1, 2), (2, 0)], entries=[0, 1], exits=[0]),
        Yard(3, roads=[(0, 2), (2, 1)], entries=[0, 2], exits=[0, 1]),
        Yard(3, roads=[(1, 0), (2, 1)], entries=[0, 2], exits=[0, 1]),
    ]
    two = [yard_by_number(2, number) for number in (0, 9, 20, 28, 37, 46, 55, 61, 63)]
    known = [Yard(1), lane(1), lane(3), stub(2), stub(3), counter(2), counter(3), turntable()]
    return [*known, *passed, *two, Yard(2, roads=[(0, 1)], entries=[0, 1], exits=[0, 1])]


def pairs_of_four_and_three():
    """Pairs of yards with seven cells together, the greatest that may be compared."""
    three = [stub(3), full(3), turntable(), Yard(3, roads=[(0, 2), (1, 0)], entries=[0, 1], exits=[1, 2])]
    four = [yard for yard in [*rich_yards(), full(4), siding(), stub(4), lane(4)] if yard.cells == 4]
    return [(a, b) for a in three for b in four]


class ComparingTest(CallTest):
    def shown(self, inner, outer):
        """What is known by trying few wagons, or a judge's proof that there is nothing to be shown."""
        order = first_difference(inner, outer, 3)
        proof = proved_within(inner, outer)
        if order is None and not proof:
            order = first_difference(inner, outer, 7)
            self.assertIsNotNone(order)
        self.assertEqual(order is None, proof)
        return order


class TestWithin(ComparingTest):
    def test_the_first_order_that_shows_it(self):
        found = {}
        for inner in some_yards():
            for outer in some_yards():
                order = self.shown(inner, outer)
                answer = within(inner, outer)
                self.assertEqual(answer, order)
                if order is not None:
                    self.order_tuple(answer)
                found[order] = True
        self.assertIn((3, 1, 5, 4, 2), found)
        self.assertGreater(len(found), 6)

    def test_some(self):
        self.assertIsNone(within(lane(3), stub(2)))
        self.assertEqual(within(stub(2), lane(3)), (2, 1))
        self.assertEqual(within(stub(3), stub(2)), (3, 2, 1))
        self.assertEqual(within(counter(3), stub(3)), (3, 1, 2))
        self.assertIsNone(within(outer=counter(3), inner=stub(3)))
        self.assertEqual(within(lane(1), Yard(1)), (1,))
        self.assertIsNone(within(Yard(1), lane(1)))

    def test_each_yard_is_within_itself(self):
        for yard in [*sample_yards(), *small_yards(), *mixed_yards(), *rich_yards()]:
            self.assertIsNone(within(yard, yard))

    def test_yards_of_seven_cells(self):
        for three, four in pairs_of_four_and_three():
            for inner, outer in ((three, four), (four, three)):
                order = self.quick(within, inner, outer)
                self.assertEqual(order, self.shown(inner, outer))

    def test_an_order_of_more_wagons_than_cells(self):
        self.assertEqual(within(stub(3), loops()), (3, 2, 4, 6, 5, 1))
        self.assertEqual(within(full(3), loops()), (3, 2, 4, 6, 5, 1))
        self.assertEqual(first_difference(stub(3), loops(), 6), (3, 2, 4, 6, 5, 1))

    def test_a_yard_without_a_road_is_within_it(self):
        for yard in (loops(), full(3), turntable(), siding()):
            for road in yard.roads:
                less = yard.without_road(*road)
                self.assertIsNone(within(less, yard))
                self.assertEqual(within(yard, less), self.shown(yard, less))


class TestParting(ComparingTest):
    def test_the_first_order_that_just_one_makes(self):
        for yard in some_yards():
            for other in some_yards():
                orders = [self.shown(yard, other), self.shown(other, yard)]
                orders = [order for order in orders if order is not None]
                first = min(orders, key=lambda order: (len(order), order)) if orders else None
                self.assertEqual(parting(yard, other), first)

    def test_some(self):
        self.assertEqual(parting(stub(2), lane(3)), (2, 1))
        self.assertEqual(parting(other=stub(2), yard=lane(3)), (2, 1))
        self.assertEqual(parting(counter(3), stub(3)), (3, 1, 2))
        self.assertEqual(parting(stub(3), counter(3)), (3, 1, 2))
        self.assertIsNone(parting(lane(2), lane(3)))
        self.assertIsNone(parting(counter(2), stub(2)))
        self.assertEqual(parting(Yard(1), stub(3)), (1,))

    def test_the_lesser_one_of_two_of_as_many_wagons(self):
        one, two = Yard(3, roads=[(1, 2), (2, 0)], entries=[0, 1], exits=[0]), stub(3)
        self.assertEqual((within(one, two), within(two, one)), ((3, 1, 2), (3, 2, 1)))
        self.assertEqual((parting(one, two), parting(two, one)), ((3, 1, 2), (3, 1, 2)))

    def test_fewer_wagons_come_before_a_lesser_order(self):
        one = counter(3)
        two = Yard(4, roads=[(0, 1), (1, 3), (2, 0)], entries=[0, 2], exits=[2, 3])
        self.assertEqual((within(one, two), within(two, one)), ((3, 1, 5, 4, 2), (4, 1, 2, 3)))
        self.assertEqual((parting(one, two), parting(two, one)), ((4, 1, 2, 3), (4, 1, 2, 3)))

    def test_yards_of_seven_cells(self):
        for three, four in pairs_of_four_and_three():
            order = self.quick(parting, three, four)
            self.assertEqual(order, self.quick(parting, four, three))
            for first, second in ((three, four), (four, three)):
                shown = within(first, second)
                self.assertTrue(shown is None or (len(order), order) <= (len(shown), shown))


class TestWithinPaper(ComparingTest):
    def judge(self, inner, outer):
        paper = self.quick(within_paper, inner, outer)
        if self.shown(inner, outer) is None:
            self.assertTrue(judged_paper(inner, outer, paper), (parts_of(inner), parts_of(outer)))
            self.assertIs(self.quick(is_within, inner, outer, paper), True)
        else:
            self.assertIsNone(paper)

    def test_just_if_it_is_within(self):
        for inner in some_yards():
            for outer in some_yards():
                self.judge(inner, outer)

    def test_of_other_yards(self):
        for yard in [*sample_yards(), *small_yards()[::3], *mixed_yards(397, 100003)]:
            self.judge(yard, yard)
            self.judge(Yard(1), yard)
            self.judge(yard, full(3))

    def test_yards_of_seven_cells(self):
        for three, four in pairs_of_four_and_three():
            self.judge(three, four)
            self.judge(four, three)

    def test_a_list_that_is_new(self):
        paper = within_paper(stub(2), counter(2))
        again = within_paper(inner=stub(2), outer=counter(2))
        self.assertIs(type(paper), list)
        self.assertEqual(paper, again)
        paper.clear()
        self.assertEqual(within_paper(stub(2), counter(2)), again)


class TestIsWithin(ComparingTest):
    def agrees(self, inner, outer, thing):
        self.assertIs(is_within(inner, outer, thing), judged_paper(inner, outer, thing), thing)

    def test_bent_papers(self):
        pairs = [(stub(2), counter(2)), (lane(2), stub(2)), (Yard(2, entries=[0, 1], exits=[0]), lane(2))]
        for inner, outer in pairs:
            paper = within_paper(inner, outer)
            for thing in bent(paper, STRANGE):
                self.agrees(inner, outer, thing)
            for at, (standing, row) in enumerate(paper):
                others = [(other, row) for other in all_standings(2)]
                others += [(standing, other) for other in bent(row, [(0, 0), (1, 0), (2, 1), (3, 0), (True, 0)])]
                others += [[standing, row], (standing, row, row), (row, standing), (list(standing), row)]
                for pair in others:
                    self.agrees(inner, outer, exchanged(paper, at, pair))
                    self.agrees(inner, outer, paper + [pair])
            self.agrees(inner, outer, tuple(paper))
            self.agrees(inner, outer, paper * 3)
            self.agrees(outer, inner, paper)

    def test_a_paper_of_other_yards(self):
        yards = some_yards()[:12]
        papers = [within_paper(a, b) for a in yards for b in yards]
        for paper in papers[::7]:
            for inner in yards[::2]:
                for outer in yards[1::2]:
                    self.agrees(inner, outer, paper)

    def test_more_pairs_than_must_be(self):
        # Pairs that are never reached, with sets that are none, rising or not.
        cases = [(stub(2), counter(2)), (lane(2), stub(3)), (Yard(2, entries=[0, 1], exits=[0]), counter(2))]
        good = []
        for inner, outer in cases:
            start = ((0, 0), first_set(outer))
            live = [standing for standing in all_standings(outer.cells) if is_live(outer, standing)]
            rows = [(live[-1],), (live[0], live[-1]), (live[-1], live[0]), tuple(live), tuple(live[::-1]), (live[0],) * 2]
            for standing in all_standings(inner.cells):
                for row in rows:
                    pairs = whole(inner, outer, [start, (standing, row)])
                    self.agrees(inner, outer, pairs)
                    self.agrees(inner, outer, pairs[::-1])
                    self.agrees(inner, outer, [start, *pairs[2:]])
                    good.append(is_within(inner, outer, pairs))
        self.assertGreater(good.count(True), 20)
        self.assertGreater(good.count(False), 20)

    def test_wagons_in_dead_cells(self):
        # Cell 1 of the inner yard is dead: its standings may stand there, but ask for no steps.
        inner, outer = Yard(2, entries=[0, 1], exits=[0]), lane(1)
        paper = within_paper(inner, outer)
        row = first_set(outer)
        self.assertTrue(all(standing[1] == 0 for standing, _ in paper))
        self.assertIs(is_within(inner, outer, paper), True)
        self.assertIs(is_within(inner, outer, paper + [((0, 1), row)]), True)
        # A rank that such a standing lets out counts.
        self.assertIs(is_within(inner, outer, paper + [((1, 2), row)]), False)
        self.assertIs(is_within(inner, outer, paper + [((1, 2), row), ((0, 1), row)]), True)
        self.assertIs(is_within(inner, outer, paper + [((2, 1), row), ((0, 1), row)]), False)
        # Of the outer yard they may not stand there.
        outer = Yard(2, entries=[0, 1], exits=[0])
        paper = within_paper(lane(1), outer)
        self.assertIs(is_within(lane(1), outer, paper), True)
        self.assertIs(is_within(lane(1), outer, paper + [((0,), ((0, 1),))]), False)
        self.assertTrue(is_pair(lane(1), outer, ((0,), ((1, 0),))))
        # Not even with a standing that asks for nothing.
        paper = within_paper(Yard(1), outer)
        self.assertIs(is_within(Yard(1), outer, paper + [((0,), ((1, 0),))]), True)
        for row in (((0, 1),), ((1, 0), (0, 1)), ((2, 1),), ((0, 0), (1, 2))):
            self.assertIs(is_within(Yard(1), outer, paper + [((0,), row)]), False)

    def test_a_set_that_is_not_rising(self):
        inner, outer = lane(1), counter(2)
        paper = within_paper(inner, outer)
        row = first_set(outer)[::-1]
        self.assertEqual(in_and_road(outer, row), first_set(outer))
        self.assertEqual(behind(outer, row, 1), behind(outer, first_set(outer), 1))
        self.assertIs(is_within(inner, outer, paper + [((0,), row)]), False)
        self.assertIs(is_within(inner, outer, paper + [((0,), row), ((1,), row)]), True)
        # It is not the first set that stands at the beginning then.
        self.assertIs(is_within(inner, outer, [(standing, other[::-1]) for standing, other in paper]), False)

    def test_a_set_that_becomes_empty(self):
        inner, outer = stub(2), lane(2)
        pairs = whole(inner, outer, [((0, 0), first_set(outer))])
        self.assertTrue(any(row == () for _, row in pairs))
        self.agrees(inner, outer, pairs)
        self.assertIs(is_within(inner, outer, [pair for pair in pairs if pair[1] != ()]), False)

    def test_anything(self):
        paper = within_paper(lane(2), lane(2))
        for thing in [*THINGS, *STRANGE]:
            self.assertIs(is_within(lane(2), lane(2), thing), False)
            self.assertIs(is_within(lane(2), lane(2), [thing]), False)
            self.agrees(lane(2), lane(2), paper + [thing])
            self.agrees(lane(2), lane(2), paper + [(thing, first_set(lane(2)))])
            self.agrees(lane(2), lane(2), paper + [((0, 0), thing)])
            self.agrees(lane(2), lane(2), paper + [((0, 0), (thing,))])
        for thing in ([], (), [[]], [()]):
            self.assertIs(is_within(Yard(1), Yard(1), thing), False)
        self.assertIs(is_within(Yard(1), Yard(1), [((0,), ((0,),))]), True)
        self.assertIs(is_within(Yard(1), Yard(1), (((0,), ((0,),)),)), False)
        self.assertIs(is_within(Yard(1), Yard(1), [((False,), ((0,),))]), False)
        self.assertIs(is_within(Yard(1), Yard(1), [((0,), ((False,),))]), False)

    def test_great_papers(self):
        for inner, outer in ((full(3), many_sets()), (full(3), full(4)), (full(3), many_lines()), (many_sets(), full(3))):
            paper = within_paper(inner, outer)
            if paper is not None:
                self.assertIs(self.quick(is_within, inner, outer, paper), True)
                self.assertIs(self.quick(is_within, inner, outer, paper[::-1] + paper), True)
                self.assertIs(self.quick(is_within, inner, outer, paper[1:]), False)
                for at in range(len(paper)):
                    self.assertIs(is_within(inner, outer, paper[:at] + paper[at + 1:]), False)
        self.assertIsNotNone(within_paper(full(3), full(4)))
        paper = within_paper(turntable(), many_sets())
        self.assertIs(self.quick(is_within, turntable(), many_sets(), paper * 10), True)


class TestParted(CallTest):
    def test_each_order_of_few_wagons(self):
        yards = [lane(1), lane(2), stub(2), counter(2), Yard(2, roads=[(0, 1)], entries=[0, 1], exits=[1]), Yard(1)]
        for first in yards:
            for second in yards:
                for n in range(5):
                    for order in all_orders(n):
                        self.judge(first, second, order)

    def judge(self, first, second, order):
        answer = self.quick(parted, first, second, order)
        n = len(order)
        if order not in orders_by_trying(first + second, n):
            self.assertIsNone(answer)
            return
        self.assertIs(type(answer), tuple)
        p, s = answer
        self.order_tuple(p)
        self.order_tuple(s)
        self.assertIn(p, orders_by_trying(first, n))
        self.assertIn(s, orders_by_trying(second, n))
        self.assertEqual(tuple(p[place - 1] for place in s), order)

    def test_three_cells_and_one(self):
        for first, second in ((stub(3), lane(1)), (lane(1), counter(3)), (turntable(), counter(1)), (stub(1), stub(3))):
            for n in range(5):
                for order in all_orders(n):
                    self.judge(first, second, order)

    def test_which_one_is_first_counts(self):
        # Those of one yard are not those of the other one.
        first, second = stub(2), Yard(2, roads=[(0, 1)], entries=[0, 1], exits=[1])
        self.assertEqual(parted(lane(1), stub(2), (2, 1)), ((1, 2), (2, 1)))
        self.assertEqual(parted(stub(2), lane(1), (2, 1)), ((2, 1), (1, 2)))
        self.assertEqual(parted(order=(2, 1), second=lane(1), first=stub(2)), ((2, 1), (1, 2)))
        self.assertIsNotNone(parted(first, second, (2, 3, 1)))

    def test_no_wagons(self):
        for first in sample_yards():
            for second in (Yard(1), lane(1), stub(2)):
                self.assertEqual(parted(first, second, ()), ((), ()))
        self.assertIsNone(parted(Yard(1), lane(1), (1,)))
        self.assertIsNone(parted(lane(1), Yard(1), (1,)))

    def test_eight_wagons(self):
        first, second = stub(2), counter(2)
        made = [(2, 1, 4, 3, 6, 5, 8, 7), (3, 1, 2, 4, 6, 5, 7, 8), tuple(range(1, 9)), (2, 3, 4, 5, 6, 7, 8, 1)]
        for order in [*made, tuple(range(8, 0, -1)), (4, 1, 2, 3, 8, 5, 6, 7)]:
            self.judge(first, second, order)
            self.judge(second, first, order)


if __name__ == "__main__":
    unittest.main()
