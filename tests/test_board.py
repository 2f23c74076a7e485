"""Point 23: a board."""

import copy
import random
import unittest

from nearercamps import errors
from nearercamps.board import Board
from nearercamps.errors import CanNot, NoPlace, NothingDone, Unfit
from nearercamps.machines import is_machine
from nearercamps.together import surely_together
from tests.calls import outcome
from tests.drawn import DUO, LONE, LONE_OURS, NAMED, TAME, TOLD, TURN, WILD, drawn_machines
from tests.interface import BOARD, told_in
from tests.plain_board import NotDone, Plain, draw_deed
from tests.support import as_lists, as_mixed, has_lists

NAMES = dict(told_in(BOARD))
HOLD, MIX = (((0,), (1,)), None), (((0, 1), (0, 1)), None)
SMALL = ((HOLD, MIX), (("any", ((0, 0), (1, 0))),))
DEEDS = ("look", "share", "add_step", "drop_step", "own", "lead", "cut", "insert", "back")


def plain_outcome(board, word, told):
    try:
        return ("result", board.do(word, told))
    except NotDone as error:
        kind, number = error.args
        return ("error", getattr(errors, kind), {} if number is None else {"place": number})


class Drawn(unittest.TestCase):
    def test_drawn_deeds_against_a_plain_list_of_machines(self):
        rng = random.Random(1)
        met = {}
        for own in NAMED + tuple(drawn_machines(1301, 40, 3, 4)):
            board, plainly = Board(own), Plain(own)
            for _ in range(40):
                word, told = draw_deed(rng, plainly)
                right = plain_outcome(plainly, word, told)
                self.assertEqual(outcome(getattr(board, word), *told), right, (word, told))
                self.assertEqual(board.machine(), plainly.now)
                self.assertIs(is_machine(board.machine(), plainly.n()), True)
                met.setdefault(word, set()).add(right[1] if right[0] == "error" else "done")
        both = {"lead": {NoPlace, Unfit, CanNot}, "cut": {NoPlace, CanNot}, "insert": {NoPlace}, "undo": {NothingDone},
                "look": {NoPlace, Unfit}, "share": {NoPlace, Unfit}, "add_step": {Unfit},
                "drop_step": {NoPlace, CanNot},
                "own": {NoPlace, Unfit}, "back": {NoPlace}, "changed": {NoPlace}, "looked_at": {NoPlace}, "mark": set(),
                "together": set(), "always": set(), "dead_steps": set()}
        self.assertEqual(met, {word: kinds | {"done"} for word, kinds in both.items()})

    def test_point_2_for_each_method(self):
        rng = random.Random(2)
        for own in NAMED:
            boards = [Board(own), Board(machine=own), Board(as_lists(own)), Board(as_mixed(own))]
            plainly = Plain(own)
            for _ in range(30):
                word, told = draw_deed(rng, plainly)
                right = plain_outcome(plainly, word, told)
                values = [told, as_lists(told), as_mixed(told), as_mixed(told, 1)]
                kept = copy.deepcopy(values)
                named = dict(zip(NAMES[word], values[1]))
                self.assertEqual(outcome(getattr(boards[0], word), *values[0]), right)
                self.assertEqual(outcome(getattr(boards[1], word), **named), right)
                self.assertEqual(outcome(getattr(boards[2], word), *values[2]), right)
                self.assertEqual(outcome(getattr(boards[3], word), *values[3]), right)
                self.assertEqual(repr(values), repr(kept))
                for board in boards:
                    self.assertEqual(repr(board.machine()), repr(plainly.now))
                    self.assertFalse(has_lists(board.machine()))

    def test_together_and_always_against_surely_together(self):
        rng = random.Random(3)
        met = set()
        for own in drawn_machines(1302, 60, 4, 4):
            board, plainly = Board(own), Plain(own)
            for _ in range(10):
                outcome(getattr(board, "lead"), *(rng.randrange(len(own[1])), rng.randrange(len(own[0])), 0))
                outcome(getattr(board, "own"), rng.randrange(len(own[1])), rng.choice(["ours", "any"]))
            told = board.machine()
            free = (told[0], tuple(("any", arrows) for _, arrows in told[1]))
            self.assertIs(board.together(), surely_together(told))
            self.assertIs(board.always(), surely_together(free))
            met.add((board.together(), board.always()))
            self.assertEqual(plainly.now, own)
        self.assertEqual(met, {(True, True), (True, False), (False, False)})


class Edges(unittest.TestCase):
    def refused(self, board, kind, call, **told):
        before = board.machine()
        with self.assertRaises(kind) as caught:
            call()
        self.assertEqual(vars(caught.exception), told)
        self.assertEqual(board.machine(), before)

    def test_copies_that_are_given_in_and_out(self):
        own = as_lists(DUO)
        board = Board(own)
        own[0][0][0][0].append(1)
        own[1].append("more")
        self.assertEqual(board.machine(), DUO)
        lot, step = [0, 1], [[[0], [0], [1]], None]
        board.look(0, 2, lot)
        board.add_step(step)
        lot.append(2)
        step[0][0][0] = 2
        self.assertEqual(board.machine()[0], ((((0,), (0,), (0, 1)), None), DUO[0][1], DUO[0][0]))
        shares = [[[1, 1]], [[1, 1]], [[1, 2], [1, 2]]]
        board.share(0, shares)
        shares[2][0][0] = 7
        self.assertEqual(board.machine()[0][0][1], (((1, 1),), ((1, 1),), ((1, 2), (1, 2))))

    def test_the_first_number_that_is_none_is_told(self):
        board = Board(DUO)
        for call, number in ((lambda: board.look(2, 9, ()), 2), (lambda: board.look(0, 3, ()), 3),
                             (lambda: board.share(-1, 7), -1), (lambda: board.drop_step(2), 2),
                             (lambda: board.own(2, "nobody"), 2), (lambda: board.lead(2, 8, 9), 2),
                             (lambda: board.lead(0, 8, 9), 8), (lambda: board.lead(0, 0, 9), 9),
                             (lambda: board.cut(5, 7), 5), (lambda: board.cut(1, 2), 2),
                             (lambda: board.insert(3, 9, 9), 3),
                             (lambda: board.insert(0, 4, 9), 4), (lambda: board.insert(0, 1, 9), 9),
                             (lambda: board.back(0), 0), (lambda: board.changed(-1), -1),
                             (lambda: board.looked_at(3), 3), (lambda: board.insert(1, -1, 0), -1)):
            self.refused(board, NoPlace, call, place=number)
        self.refused(board, NothingDone, board.undo)

    def test_steps(self):
        board = Board(TOLD)
        board.look(0, 0, (1,))
        self.assertEqual(board.machine()[0][0], (((1,), (1,)), None))
        for lot in ((), (2,), (1, 0), (0, 0), (-1,)):
            self.refused(board, Unfit, lambda: board.look(0, 0, lot))
        for shares in ((((1, 1),),), (((1, 1),), ((1, 2),)), (((1, 1),), ((0, 1),)), ()):
            self.refused(board, Unfit, lambda: board.share(0, shares))
        board.share(0, (((1, 1),), ((1, 1),)))
        board.share(0, None)
        self.assertIsNone(board.machine()[0][0][1])
        self.refused(board, Unfit, lambda: board.add_step((((0,),), None)))
        self.refused(board, Unfit, lambda: board.add_step((((0,), (0, 1)), (((1, 1),), ((1, 1),)))))
        self.assertEqual(board.add_step((((0,), (0, 1)), None)), 2)
        # An equal STEP is another one.
        self.assertEqual(board.add_step((((0,), (0, 1)), None)), 3)
        self.assertEqual(board.dead_steps(), (2, 3))

    def test_dropped_steps(self):
        board = Board(((HOLD, MIX, HOLD), (("any", ((0, 0), (2, 0))),)))
        self.refused(board, CanNot, lambda: board.drop_step(0))
        self.refused(board, CanNot, lambda: board.drop_step(2))
        self.assertIsNone(board.drop_step(1))
        self.assertEqual(board.machine(), ((HOLD, HOLD), (("any", ((0, 0), (1, 0))),)))
        board.cut(0, 1)
        board.drop_step(1)
        self.refused(board, CanNot, lambda: board.drop_step(0))

    def test_arrows(self):
        board = Board(TURN)
        self.refused(board, CanNot, lambda: board.cut(0, 0))
        self.refused(board, CanNot, lambda: board.lead(1, 0, 1))
        self.refused(board, Unfit, lambda: board.lead(1, 1, 0))
        self.assertEqual(board.lead(0, 0, 0), 1)
        self.assertEqual(board.lead(0, 1, 1), 2)
        self.refused(board, Unfit, lambda: board.lead(0, 0, 0))
        board.cut(0, 0)
        # The last arrow to stand 1 must stay.
        self.refused(board, CanNot, lambda: board.cut(0, 1))
        self.assertEqual(board.machine()[1], (("any", ((0, 0), (1, 1))), ("any", ((1, 0),))))
        three = Board((WILD[0], (("any", ((0, 1), (1, 2))), ("any", ((0, 2),)), ("any", ((1, 0),)))))
        self.refused(three, CanNot, lambda: three.lead(2, 0, 1))
        self.refused(three, Unfit, lambda: three.lead(1, 0, 2))
        self.refused(three, CanNot, lambda: three.cut(0, 0))
        self.assertIsNone(three.cut(0, 1))

    def test_insert(self):
        board = Board(LONE_OURS)
        self.assertEqual(board.insert(0, 1, 0), 1)
        self.assertEqual(board.insert(1, 0, 1), 2)
        self.assertEqual(board.machine()[1], (("ours", ((0, 0), (1, 1))), ("any", ((0, 2),)), ("any", ((1, 0),))))
        self.assertEqual(board.insert(0, 1, 1), 3)
        self.assertEqual(board.machine()[1][3], ("any", ((1, 1),)))

    def test_owners(self):
        board = Board(WILD)
        for word in ("anybody", "Ours", "", "us"):
            self.refused(board, Unfit, lambda: board.own(0, word))
        self.assertIsNone(board.own(0, "ours"))
        self.assertEqual(board.machine(), TAME)
        self.assertIsNone(board.own(0, "ours"))
        board.undo()
        self.assertEqual(board.machine(), TAME)
        board.undo()
        self.assertEqual(board.machine(), WILD)

    def test_undo_to_the_beginning_and_once_more(self):
        rng = random.Random(4)
        board, plainly = Board(DUO), Plain(DUO)
        while len(plainly.machines) < 40:
            word, told = draw_deed(rng, plainly)
            if word != "undo":
                plain_outcome(plainly, word, told)
                outcome(getattr(board, word), *told)
        for many in range(39):
            self.assertEqual(board.machine(), plainly.machines[-1 - many])
            self.assertIsNone(board.undo())
        self.assertEqual(board.machine(), DUO)
        self.refused(board, NothingDone, board.undo)
        board.cut(1, 0)
        board.undo()
        self.refused(board, NothingDone, board.undo)

    def test_a_deed_that_raises_is_none(self):
        board = Board(DUO)
        board.own(0, "ours")
        for call in (lambda: board.own(0, "nobody"), lambda: board.cut(0, 9), lambda: board.drop_step(0)):
            self.assertRaises((Unfit, NoPlace, CanNot), call)
        board.undo()
        self.assertEqual(board.machine(), DUO)
        self.assertRaises(NothingDone, board.undo)

    def test_marks_and_back(self):
        board = Board(WILD)
        self.assertEqual([board.mark(), board.mark()], [0, 1])
        board.own(0, "ours")
        self.assertEqual(board.mark(), 2)
        # A mark is no deed: undo undoes what was done ahead of it, and marks remain.
        board.undo()
        self.assertEqual(board.machine(), WILD)
        board.back(2)
        self.assertEqual(board.machine(), TAME)
        board.back(0)
        self.assertEqual(board.machine(), WILD)
        board.undo()
        self.assertEqual(board.machine(), TAME)
        board.undo()
        self.assertEqual(board.machine(), WILD)
        self.refused(board, NothingDone, board.undo)
        self.refused(board, NoPlace, lambda: board.back(3), place=3)
        self.assertEqual(board.mark(), 3)

    def test_changed(self):
        board = Board(SMALL)
        board.mark()
        self.assertEqual(board.changed(0), ())
        board.own(0, "ours")
        self.assertEqual(board.changed(0), ("together",))
        board.mark()
        board.look(0, 1, (0,))
        self.assertEqual(board.changed(0), ("always", "together"))
        self.assertEqual(board.changed(1), ("always",))
        board.back(0)
        self.assertEqual(board.changed(0), ())
        self.assertEqual(board.changed(1), ("together",))

    def test_who_is_looked_at(self):
        board = Board(((HOLD, MIX, (((0,), (0, 1)), None)), (("any", ((1, 0),)),)))
        self.assertEqual(board.looked_at(0), (1, 2))
        self.assertEqual(board.looked_at(1), (1,))
        self.assertEqual(board.dead_steps(), (0, 2))
        self.assertEqual(Board(LONE).looked_at(0), ())
        self.assertEqual(Board(LONE).dead_steps(), ())


if __name__ == "__main__":
    unittest.main()
