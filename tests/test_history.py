"""Histories: points 47 to 50."""

import unittest
from random import Random

import growing
import histories
from making import refusal

from easelwork.deeds import do
from easelwork.documents import Document
from easelwork.errors import EaselError
from easelwork.history import History
from easelwork.layers import layer

MANY = 10 ** 59


def simple():
    return History(Document(2, 2, layer(0, "group", layer(1, "paint"), layer(2, "solid"))))


def opacity(value):
    return ("set", 2, "opacity", value)


def numbered(*pens):
    """A history with one state for each pen, one below the other."""
    history = simple()
    for k, pen in enumerate(pens):
        history.act(opacity(k), pen=pen)
    return history


class ActTest(unittest.TestCase):
    def test_state_0(self):
        document = simple().document
        history = History(document)
        self.assertEqual((history.now, len(history), list(history)), (0, 1, [(0, None, None, None, 0)]))
        self.assertEqual((history.road(0), history.children(0), history.following(0)), ((0,), (), None))
        self.assertEqual((history.document, history.document_at(0), history.plain(0)), (document,) * 3)
        self.assertEqual(history.pack(), (document.pack(), ((0, None, None, None, 0),), 0, (), ()))

    def test_rows(self):
        history = simple()
        self.assertEqual(history.act(opacity(3), pen=99), 1)
        self.assertEqual(history.act(("drop", 2)), 2)
        history.go(1)
        self.assertEqual(history.act(opacity(4)), 3)
        tree = layer(2, "solid", opacity=3)
        self.assertEqual(tuple(history), (
            (0, None, None, None, 0), (1, 0, opacity(3), opacity(255), 99), (2, 1, ("drop", 2), ("add", 0, 1, tree), 0),
            (3, 1, opacity(4), opacity(3), 0)))
        self.assertEqual((history.children(1), history.following(1), history.children(3)), ((2, 3), 3, ()))
        self.assertEqual(len(history), 4)

    def test_the_deed_is_kept_as_it_was_passed(self):
        history = simple()
        deed = ("put", 1, ((0, 0, (0, 0, 0, 0)), (1, 0, (1, 1, 1, 1))))
        history.act(deed)
        self.assertEqual(list(history)[1][2:4], (deed, ("put", 1, ((1, 0, (0, 0, 0, 0)),))))

    def test_errors_in_their_order(self):
        history = simple()
        for pen in (-1, 100, -MANY, MANY):
            self.assertEqual(refusal(history.act, ("drop", 0), pen=pen), ("BadValue", "pen"))
        self.assertEqual(refusal(history.act, ("drop", 0)), ("BadPlace",))
        self.assertEqual(refusal(history.act, ("drop", 9)), ("NoLayer", 9))
        self.assertEqual(refusal(history.act, opacity(255)), ("NoChange",))
        self.assertEqual(len(history), 1)

    def test_two_hundred_states(self):
        history = simple()
        for k in range(199):
            self.assertEqual(history.act(opacity(k)), k + 1)
        before = history.pack()
        self.assertEqual(refusal(history.act, ("drop", 9)), ("TooLarge", "states"))
        self.assertEqual(refusal(history.act, opacity(0), pen=100), ("BadValue", "pen"))
        history.go(3)
        self.assertEqual(refusal(history.act, opacity(0)), ("TooLarge", "states"))
        history.go(199)
        self.assertEqual(history.pack(), before)
        self.assertEqual(len(history), 200)
        self.assertEqual((history.undo(), history.redo()), (198, 199))


class StepTest(unittest.TestCase):
    def test_no_way(self):
        history = simple()
        self.assertEqual((refusal(history.undo), refusal(history.redo)), (("NoWay",), ("NoWay",)))
        history.act(opacity(1))
        self.assertEqual(refusal(history.redo), ("NoWay",))

    def test_a_run_of_one_pen_goes_together(self):
        history = numbered(0, 5, 5, 5, 6, 0, 0)
        self.assertEqual([history.undo() for _ in range(5)], [6, 5, 4, 1, 0])
        self.assertEqual([history.redo() for _ in range(5)], [1, 4, 5, 6, 7])

    def test_a_run_that_begins_at_state_0(self):
        history = numbered(5, 5)
        self.assertEqual((history.undo(), history.redo(), history.undo()), (0, 2, 0))

    def test_redo_goes_on_where_the_pen_is_the_same(self):
        # The exception of point 48: undo from 1 and redo do not lead back to 1, as 2 has the same pen.
        history = numbered(5, 5)
        history.go(1)
        self.assertEqual((history.undo(), history.redo()), (0, 2))
        history.go(1)
        self.assertEqual(history.redo(), 2)

    def test_undo_from_the_middle_of_a_run(self):
        history = numbered(1, 5, 5, 5)
        history.go(3)
        self.assertEqual((history.undo(), history.following(1), history.following(2)), (1, 2, 3))
        self.assertEqual(history.redo(), 4)

    def test_undo_leaves_the_way_back_as_the_following_state(self):
        history = numbered(0, 0)
        history.undo()
        history.act(opacity(9))
        self.assertEqual((history.undo(), history.following(1)), (1, 3))
        history.go(2)
        self.assertEqual((history.undo(), history.following(1), history.redo()), (1, 2, 2))


class GoTest(unittest.TestCase):
    def branched(self):
        """0 - 1 - 2 - 3, and 1 - 4 - 5."""
        history = numbered(0, 0, 0)
        history.go(1)
        history.act(opacity(7))
        history.act(opacity(8))
        return history

    def test_roads_and_ways(self):
        history = self.branched()
        self.assertEqual((history.road(3), history.road(5), history.road(0)), ((0, 1, 2, 3), (0, 1, 4, 5), (0,)))
        self.assertEqual((history.way(3, 5), history.way(5, 3)), ((3, 2, 4, 5), (5, 4, 2, 3)))
        self.assertEqual((history.way(1, 1), history.way(1, 5), history.way(5, 1)), ((), (4, 5), (5, 4)))
        self.assertEqual((history.way(0, 2), history.way(0, 0)), ((1, 2), ()))

    def test_go_makes_the_states_on_its_way_following_ones(self):
        history = self.branched()
        self.assertEqual((history.following(1), history.following(2), history.go(2)), (4, 3, 2))
        self.assertEqual([history.following(k) for k in range(6)], [1, 2, 3, None, 5, None])
        self.assertEqual(history.go(0), 0)
        self.assertEqual([history.redo() for _ in range(3)], [1, 2, 3])

    def test_the_present_state_is_no_step(self):
        history = self.branched()
        history.go(1)
        before = history.pack()
        self.assertEqual((history.go(1), history.pack()), (1, before))

    def test_names_lead_to_states(self):
        history = self.branched()
        history.mark("here")
        history.go(3)
        self.assertEqual((history.go("here"), history.now), (5, 5))
        self.assertEqual(refusal(history.go, "there"), ("NoName", "there"))
        self.assertEqual(refusal(history.go, ""), ("NoName", ""))

    def test_states_that_no_history_has(self):
        history = self.branched()
        before = history.pack()
        for state in (-1, 6, -MANY, MANY):
            for call in (history.document_at, history.plain, history.road, history.children, history.following,
                         history.go):
                self.assertEqual(refusal(call, state), ("NoState", state))
            self.assertEqual(refusal(history.way, state, 7), ("NoState", state))
            self.assertEqual(refusal(history.way, 5, state), ("NoState", state))
        self.assertEqual(history.pack(), before)


class NamesTest(unittest.TestCase):
    def test_marks(self):
        history = numbered(0, 0)
        self.assertEqual((history.mark("b"), history.mark("B"), history.mark(" ")), (2, 2, 2))
        self.assertEqual(history.undo(), 1)
        self.assertEqual(history.mark("a" * 24), 1)
        self.assertEqual(history.names(), ((" ", 2), ("B", 2), ("a" * 24, 1), ("b", 2)))
        self.assertEqual((history.unmark("B"), history.names()), (1, ((" ", 2), ("a" * 24, 1), ("b", 2))))

    def test_words_out_of_range(self):
        history = simple()
        for word in ("", "a" * 25, "a~", chr(37), "x" + chr(37)):
            self.assertEqual(refusal(history.mark, word), ("BadValue", "word"))
        self.assertEqual(history.mark("}\"\\"), 0)

    def test_errors(self):
        history = simple()
        history.mark("a")
        self.assertEqual(refusal(history.mark, "a"), ("NameTaken", "a"))
        history.act(opacity(1))
        self.assertEqual(refusal(history.mark, "a"), ("NameTaken", "a"))
        self.assertEqual(refusal(history.unmark, "b"), ("NoName", "b"))
        self.assertEqual(refusal(history.unmark, "a" * 30), ("NoName", "a" * 30))
        self.assertEqual(history.names(), (("a", 0),))
        history.unmark("a")
        self.assertEqual((history.mark("a"), history.names()), (1, (("a", 1),)))

    def test_names_stay_while_states_change(self):
        history = numbered(0, 0, 0)
        history.go(1)
        history.mark("one")
        before = history.names()
        history.go(3)
        history.undo()
        history.act(opacity(99))
        history.undo()
        self.assertEqual(history.names(), before)


class EntriesTest(unittest.TestCase):
    def test_each_entry_is_its_call(self):
        one, two = simple(), simple()
        steps = (
            (("act", opacity(3), 7), lambda: two.act(opacity(3), pen=7)), (("mark", "m"), lambda: two.mark("m")),
            (("act", opacity(4), 7), lambda: two.act(opacity(4), pen=7)), (("undo",), two.undo),
            (("redo",), two.redo), (("go", "m"), lambda: two.go("m")), (("go", 0), lambda: two.go(0)),
            (("unmark", "m"), lambda: two.unmark("m")),
        )
        for entry, call in steps:
            self.assertEqual(one.perform(entry), call())
            self.assertEqual((one.now, one.pack()), (two.now, two.pack()))

    def test_errors_of_entries(self):
        history = simple()
        for entry, error in ((("act", ("drop", 0), 0), ("BadPlace",)), (("act", opacity(1), 100), ("BadValue", "pen")),
                             (("undo",), ("NoWay",)), (("redo",), ("NoWay",)), (("go", 9), ("NoState", 9)),
                             (("go", "x"), ("NoName", "x")), (("mark", ""), ("BadValue", "word")), (("unmark", "x"), ("NoName", "x"))):
            self.assertEqual(refusal(history.perform, entry), error)
        self.assertEqual(len(history), 1)


class PackTest(unittest.TestCase):
    def test_a_pack(self):
        history = numbered(3, 0)
        history.mark("end")
        history.undo()
        self.assertEqual(history.pack(), (
            history.document.pack(),
            ((0, None, None, None, 0), (1, 0, opacity(0), opacity(255), 3), (2, 1, opacity(1), opacity(0), 0)),
            1, ((0, 1), (1, 2)), (("end", 2),)))

    def test_a_rebuilt_history_goes_on_as_the_first_one(self):
        for seed in range(60):
            chance = Random(seed)
            history = histories.some_history(chance, 14)
            made = History.rebuilt(history.pack())
            self.assertEqual((made.pack(), made.now, made.document), (history.pack(), history.now, history.document))
            self.assertEqual([made.document_at(s) for s in range(len(made))],
                             [history.document_at(s) for s in range(len(history))])
            for _ in range(10):
                entry = histories.some_entry(chance, history)
                self.assertEqual(refusal(made.perform, entry), refusal(history.perform, entry))
                self.assertEqual(made.pack(), history.pack())
            for state in range(len(history)):
                for call in ("road", "children", "following", "plain"):
                    self.assertEqual(getattr(made, call)(state), getattr(history, call)(state))

    def test_the_rebuilt_one_is_another_history(self):
        history = numbered(0)
        made = History.rebuilt(history.pack())
        made.act(opacity(9))
        made.mark("x")
        self.assertEqual((len(history), history.now, history.names(), history.following(1)), (2, 1, (), None))


class GuaranteeTest(unittest.TestCase):
    def test_over_many_histories(self):
        for seed in range(80):
            chance = Random(seed)
            history = histories.some_history(chance, 25)
            for state, parent, deed, inverse, _ in history:
                if state > 0:
                    self.assertLess(parent, state)
                    made, back = do(history.document_at(parent), deed)
                    self.assertEqual((made, back), (history.document_at(state), inverse))
                self.assertEqual(history.document_at(state), history.plain(state))
                again = History(history.document_at(0))
                for step in history.road(state)[1:]:
                    again.act(list(history)[step][2])
                self.assertEqual(again.document, history.document_at(state))
            self.assertEqual(history.document, history.document_at(history.now))
            road = history.road(history.now)
            for state, step in zip(road, road[1:]):
                self.assertEqual(history.following(state), step)

    def test_ways_and_steps_against_a_slow_account(self):
        for seed in range(40):
            chance = Random(seed)
            history = histories.some_history(chance, 25, kinds=("paint", "solid"))
            for _ in range(12):
                a, b = [chance.randrange(len(history)) for _ in range(2)]
                common = max(set(history.road(a)) & set(history.road(b)))
                up = sorted(set(history.road(a)) - set(history.road(common)), reverse=True)
                down = sorted(set(history.road(b)) - set(history.road(common)))
                self.assertEqual(history.way(a, b), tuple(up + down))
                self.assertEqual(history.way(b, a), history.way(a, b)[::-1])
                history.go(a)
                followings = dict(history.pack()[3])
                history.go(b)
                parents = {row[0]: row[1] for row in history}
                for state in up + down:
                    followings[parents[state]] = state
                self.assertEqual(dict(history.pack()[3]), followings)

    def test_going_over_another_state_leads_to_the_same(self):
        for seed in range(30):
            chance = Random(seed)
            history = histories.some_history(chance, 20, kinds=("paint", "solid"))
            a, b = [chance.randrange(len(history)) for _ in range(2)]
            other = History.rebuilt(history.pack())
            history.go(a)
            self.assertEqual((history.go(b), history.document), (other.go(b), other.document))

    def test_a_refused_call_changes_nothing(self):
        refused = 0
        for seed in range(40):
            chance = Random(seed)
            history = histories.some_history(chance, 10)
            for _ in range(30):
                before = history.pack()
                try:
                    history.perform(histories.some_entry(chance, history))
                except EaselError:
                    refused += 1
                    self.assertEqual(history.pack(), before)
        self.assertGreater(refused, 50)

    def test_documents_are_made_of_any_kind_of_layers(self):
        document = growing.document(Random(5))
        self.assertEqual(History(document).document, document)


if __name__ == "__main__":
    unittest.main()
