"""Promise 24: histories, undone and done again, and patches."""

import random
import unittest

from recurwright.errors import NoSuch
from recurwright.histories import History, patched, unlike


class HistoryTest(unittest.TestCase):
    def test_bare(self):
        history = History()
        self.assertEqual((history.rows, history.done, history.undone), ({}, [], []))
        self.assertEqual((history.at(0), history.between(0, 0), history.names_ever()), ({}, (), ()))
        for refused in (history.undo, history.redo, lambda: history.take("a"), lambda: history.at(1), lambda: history.at(-1)):
            with self.assertRaises(NoSuch):
                refused()
        self.assertEqual((history.rows, history.done, history.undone), ({}, [], []))

    def test_begun_with_rows(self):
        rows = {"a": 1, "b": 2}
        history = History(rows)
        history.put("a", 5)
        history.take("b")
        self.assertEqual((history.rows, rows), ({"a": 5}, {"a": 1, "b": 2}))
        self.assertEqual((history.at(0), history.at(1), history.at(2)), ({"a": 1, "b": 2}, {"a": 5, "b": 2}, {"a": 5}))
        self.assertEqual(history.done, [("a", 1, 5), ("b", 2, None)])

    def test_put_take_undo_redo(self):
        history = History()
        history.put("a", "x")
        history.put("b", ("y", 1))
        history.put("a", "z")
        history.take("b")
        self.assertEqual(history.rows, {"a": "z"})
        history.undo()
        history.undo()
        self.assertEqual(history.rows, {"a": "x", "b": ("y", 1)})
        self.assertEqual(history.undone, [("b", ("y", 1), None), ("a", "x", "z")])
        history.redo()
        self.assertEqual((history.rows, history.undone), ({"a": "z", "b": ("y", 1)}, [("b", ("y", 1), None)]))
        history.redo()
        self.assertEqual((history.rows, history.undone), ({"a": "z"}, []))
        with self.assertRaises(NoSuch):
            history.redo()
        for _ in range(4):
            history.undo()
        self.assertEqual((history.rows, history.done, len(history.undone)), ({}, [], 4))
        with self.assertRaises(NoSuch):
            history.undo()

    def test_edits_behind_undone_ones(self):
        for edit in (lambda history: history.put("c", 3), lambda history: history.take("a"), lambda history: history.do(("c", None, 3))):
            history = History()
            history.put("a", 1)
            history.put("b", 2)
            history.undo()
            edit(history)
            self.assertEqual((history.undone, len(history.done)), ([], 2))
            with self.assertRaises(NoSuch):
                history.redo()

    def test_what_is_refused_forgets_nothing(self):
        history = History()
        history.put("a", 1)
        history.put("b", 2)
        history.undo()
        for refused in (lambda: history.take("b"), lambda: history.at(2), lambda: history.at(-1), lambda: history.between(0, 2),
                        lambda: history.between(5, 0)):
            with self.assertRaises(NoSuch):
                refused()
            self.assertEqual((history.rows, history.done, history.undone), ({"a": 1}, [("a", None, 1)], [("b", None, 2)]))

    def test_a_row_put_where_it_stands_already(self):
        history = History()
        history.put("a", 1)
        history.put("b", 1)
        history.undo()
        history.put("a", 1)
        self.assertEqual((history.rows, history.done, history.undone), ({"a": 1}, [("a", None, 1), ("a", 1, 1)], []))
        self.assertEqual((history.at(1), history.between(1, 2)), ({"a": 1}, ()))
        history.undo()
        self.assertEqual(history.rows, {"a": 1})

    def test_do_and_let(self):
        history = History({"a": 1})
        history.do(["a", 1, 2])
        history.do(("a", 2, None))
        history.do(("b", None, 3))
        self.assertEqual((history.rows, history.done), ({"b": 3}, [("a", 1, 2), ("a", 2, None), ("b", None, 3)]))
        history.undo()
        history.undo()
        self.assertEqual(history.rows, {"a": 2})
        history.let("c", 7)
        history.let("a", None)
        history.let("x", None)
        self.assertEqual((history.rows, len(history.done), len(history.undone)), ({"c": 7}, 1, 2))

    def test_told_rows_are_not_the_historys_own(self):
        history = History()
        history.put("a", 1)
        history.at(1)["b"] = 2
        history.at(0)["b"] = 2
        self.assertEqual((history.rows, history.at(0), history.at(1)), ({"a": 1}, {}, {"a": 1}))

    def test_as_keeping_all_moments(self):
        draw = random.Random(24)
        for _ in range(30):
            start = {name: draw.randrange(4) for name in "abc" if draw.random() < 0.5}
            history = History(start)
            moments, later = [(None, dict(start))], []
            for _ in range(60):
                act = draw.choice(["put", "put", "take", "undo", "redo"])
                name = draw.choice("abcd")
                now = dict(moments[-1][1])
                if act == "put":
                    now[name] = draw.randrange(4)
                    history.put(name, now[name])
                    moments, later = moments + [(name, now)], []
                elif act == "take" and name in now:
                    now.pop(name)
                    history.take(name)
                    moments, later = moments + [(name, now)], []
                elif act == "undo" and len(moments) > 1:
                    history.undo()
                    later.append(moments.pop())
                elif act == "redo" and later != []:
                    history.redo()
                    moments.append(later.pop())
                elif act != "put":
                    with self.assertRaises(NoSuch):
                        {"take": lambda: history.take(name), "undo": history.undo, "redo": history.redo}[act]()
                self.same(history, moments, len(later))

    def same(self, history, moments, later):
        self.assertEqual((history.rows, len(history.done), len(history.undone)), (moments[-1][1], len(moments) - 1, later))
        self.assertEqual(history.names_ever(), tuple(sorted({name for name, _ in moments[1:]})))
        for count, (_, rows) in enumerate(moments):
            self.assertEqual(history.at(count), rows)
        first, last = moments[0][1], moments[len(moments) // 2][1]
        wanted = [(name, first.get(name), last.get(name)) for name in "abcd" if first.get(name) != last.get(name)]
        self.assertEqual(history.between(0, len(moments) // 2), tuple(wanted))


class PatchesTest(unittest.TestCase):
    def test_unlike(self):
        one, other = {"b": 1, "a": 2, "c": 3}, {"c": 4, "b": 1, "d": (5,)}
        self.assertEqual(unlike(one, other), (("a", 2, None), ("c", 3, 4), ("d", None, (5,))))
        self.assertEqual(unlike(other, one), (("a", None, 2), ("c", 4, 3), ("d", (5,), None)))
        self.assertEqual((unlike(one, one), unlike({}, {})), ((), ()))

    def test_patched(self):
        rows = {"a": 1, "b": 2}
        self.assertEqual(patched(rows, [("a", 1, 5), ["b", 2, None], ("c", None, 3)]), {"a": 5, "c": 3})
        # Changes are made one behind another.
        self.assertEqual(patched(rows, (("a", 1, None), ("a", None, 7), ("b", 2, 2), ("x", None, None))), {"a": 7, "b": 2})
        self.assertEqual((rows, patched(rows, ())), ({"a": 1, "b": 2}, rows))
        self.assertIsNot(patched(rows, ()), rows)

    def test_another_row_is_there(self):
        rows = {"a": 1, "b": 2}
        for changes in ([("a", 2, 5)], [("a", None, 5)], [("c", 1, None)], [("a", 1, 5), ("b", 1, 5)],
                        [("a", 1, 5), ("a", 1, 6)], [("a", 1, None), ("a", 1, 1)]):
            with self.assertRaises(NoSuch):
                patched(rows, changes)
            self.assertEqual(rows, {"a": 1, "b": 2})

    def test_what_two_tables_differ_in_patches_one_into_the_other(self):
        draw = random.Random(2)
        for _ in range(100):
            one, other = [{name: draw.randrange(3) for name in "abcd" if draw.random() < 0.6} for _ in range(2)]
            self.assertEqual(patched(one, unlike(one, other)), other)
            self.assertEqual(patched(other, unlike(other, one)), one)
