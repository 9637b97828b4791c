"""The bench, on which a book is edited [10.9]."""

import unittest

from sheetproofs.bench import Bench
from sheetproofs.books import Book
from sheetproofs.edits import apply_edit
from sheetproofs.errors import BadEdit, NothingDone
from tests.bookshelf import TREE, square_book
from tests.helpers import NO_SEQUENCES, Case, a_random
from tests.test_edits import NO_KINDS, NO_PAIRS

RING, BACK = (0, 0, 1, 1), (0, 1, 1, 0)
LET, SHUT = ("let", (1, 1)), ("shut", (1, 1))
EDITS = [("ring", RING, 0), ["ring", list(RING), 1], ("strike", 0), ["ring", BACK, 1], ("strike", 1)]


class Stop(Exception):
    """An error that the package does not know."""


class BenchCase(Case):
    def is_at(self, bench, book, log):
        """Check the book and the log of a bench, and the books that it yields."""
        self.assertTrue(bench.current == book)
        self.exactly(len(bench.log), len(log))
        self.assertEqual(bench.log, tuple(log))
        self.assertIs(bench.log.__class__, tuple)
        books = list(bench.books())
        self.assertEqual(len(books), len(log) + 1)
        self.assertTrue(books[-1] == book)
        for edit, before, behind in zip(log, books, books[1:]):
            self.assertTrue(apply_edit(before, edit) == behind)


class TestMake(BenchCase):
    def test_new(self):
        book = square_book((2, 0))
        bench = Bench(book)
        self.is_at(bench, book, ())
        self.assertIs(hasattr(bench, "book"), False)
        self.assertFalse(bench == Bench(book))

    def test_make(self):
        bench = Bench(Book(TREE, ()))
        log, book = [], Book(TREE, ())
        for edit in (["let", [1, 1]], ("ring", RING, 0), ["ring", list(BACK), 1], ["strike", 0], ("strike", 0), SHUT):
            self.assertIsNone(bench.make(edit))
            book = apply_edit(book, edit)
            log.append(tuple(tuple(part) if isinstance(part, list) else part for part in edit))
            self.is_at(bench, book, log)
        self.assertEqual(bench.log[0], ("let", (1, 1)))
        self.assertEqual(bench.log[2], ("ring", BACK, 1))
        for edit in bench.log:
            self.assertIs(edit.__class__, tuple)
            for part in edit:
                self.assertNotIsInstance(part, list)

    def test_later_changes_have_no_effect(self):
        edit = ["ring", [0, 0, 1, 1], 0]
        bench = Bench(square_book())
        bench.make(edit)
        bench.run([edit])
        edit[1][0] = 1
        edit[2] = 1
        self.is_at(bench, square_book((1, 0), (1, 0)), [("ring", RING, 0)] * 2)

    def test_more_than_twenty_edits(self):
        bench = Bench(Book(TREE, ()))
        for _ in range(25):
            bench.make(LET)
            bench.make(SHUT)
        bench.run([LET, SHUT] * 10)
        self.is_at(bench, Book(TREE, ()), [LET, SHUT] * 35)

    def test_refused(self):
        bench = Bench(square_book((1, 0)))
        bench.make(("ring", BACK, 0))
        log = [("ring", BACK, 0)]
        wrong = [(thing, "kind") for thing in NO_KINDS] + [(("let", thing), "pair") for thing in NO_PAIRS]
        wrong += [(("ring", (0, 0, 1, 2), 0), "corners"), (("ring", RING, True), "sign"), (("strike", 7), "place"),
                  (("shut", (0, 0)), "premise")]
        for edit, what in wrong:
            self.refused(BadEdit, {"index": 0, "what": what}, bench.make, edit)
            self.refused(BadEdit, {"index": 1, "what": what}, bench.run, [("ring", RING, 0), edit, None])
            self.refused(BadEdit, {"index": 0, "what": what}, bench.trial, [edit], None)
        self.is_at(bench, square_book((1, 0), (-1, 0)), log)

    def test_full(self):
        bench = Bench(square_book())
        bench.run([("ring", RING, 0)] * 10)
        self.refused(BadEdit, {"index": 0, "what": "full"}, bench.make, ("ring", RING, 0))
        self.refused(BadEdit, {"index": 2, "what": "full"}, bench.run,
                     [("strike", 0), ("ring", RING, 0), ("ring", RING, 0)])
        self.is_at(bench, square_book(*[(1, 0)] * 10), [("ring", RING, 0)] * 10)


class TestRun(BenchCase):
    def test_run(self):
        bench = Bench(square_book())
        self.assertIsNone(bench.run(EDITS))
        self.is_at(bench, square_book((1, 1)), [("ring", RING, 0), ("ring", RING, 1), ("strike", 0),
                                                ("ring", BACK, 1), ("strike", 1)])
        self.assertIsNone(bench.run(()))
        self.assertIsNone(bench.run([]))
        self.assertEqual(len(bench.log), 5)

    def test_many(self):
        bench = Bench(square_book((0, 0)))
        for thing in NO_SEQUENCES + ([None] * 21, [("ring", RING, 0), ("strike", 0)] * 11):
            self.refused(BadEdit, {"index": -1, "what": "many"}, bench.run, thing)
            self.refused(BadEdit, {"index": -1, "what": "many"}, bench.trial, thing, None)
        self.is_at(bench, square_book((0, 0)), ())

    def test_none_is_made_if_one_is_refused(self):
        bench = Bench(square_book((2, 0)))
        bench.make(("ring", RING, 1))
        for at in range(6):
            edits = EDITS[:at] + [("strike", 9)] + EDITS[at:]
            self.refused(BadEdit, {"index": at, "what": "place"}, bench.run, edits)
            self.is_at(bench, square_book((2, 0), (1, 1)), [("ring", RING, 1)])


class TestTakeBack(BenchCase):
    def test_take_back(self):
        bench = Bench(Book(TREE, ()))
        bench.make(["let", [1, 1]])
        bench.run([["ring", list(RING), 1], ("ring", BACK, 0)])
        self.assertEqual(bench.take_back(), ("ring", BACK, 0))
        self.is_at(bench, square_book((1, 1)), [LET, ("ring", RING, 1)])
        bench.make(("ring", BACK, 1))
        self.assertEqual([bench.take_back() for _ in range(3)], [("ring", BACK, 1), ("ring", RING, 1), LET])
        self.is_at(bench, Book(TREE, ()), ())
        self.refused(NothingDone, {}, bench.take_back)
        self.is_at(bench, Book(TREE, ()), ())

    def test_nothing_done(self):
        bench = Bench(square_book((1, 0)))
        self.refused(NothingDone, {}, bench.take_back)
        bench.run(())
        self.refused(NothingDone, {}, bench.take_back)
        self.is_at(bench, square_book((1, 0)), ())


class TestTrial(BenchCase):
    def setUp(self):
        self.bench = Bench(square_book((2, 0)))
        self.bench.make(("ring", RING, 1))

    def tearDown(self):
        self.is_at(self.bench, square_book((2, 0), (1, 1)), [("ring", RING, 1)])

    def test_what_is_asked(self):
        told = []

        def ask(bench):
            self.assertIs(bench, self.bench)
            self.is_at(bench, square_book((1, 1)), [("ring", RING, 1), ("strike", 0)])
            told.append(bench.log)
            return told
        self.assertIs(self.bench.trial([["strike", 0]], ask), told)
        self.assertEqual(told, [(("ring", RING, 1), ("strike", 0))])
        self.assertIsNone(self.bench.trial((), lambda bench: None))
        self.assertEqual(self.bench.trial((), lambda bench: len(bench.log)), 1)
        books = self.bench.trial(EDITS[:2], lambda bench: list(bench.books()))
        self.assertTrue(books == [square_book((2, 0)), square_book((2, 0), (1, 1)),
                                  square_book((2, 0), (1, 1), (1, 0)),
                                  square_book((2, 0), (1, 1), (1, 0), (1, 1))])

    def test_whatever_is_done_meanwhile(self):
        def more(bench):
            bench.make(("ring", BACK, 0))
            bench.run(EDITS[:2])

        def less(bench):
            while bench.log:
                bench.take_back()
            self.is_at(bench, square_book((2, 0)), ())

        def other(bench):
            less(bench)
            more(bench)
            return len(bench.log)
        self.assertIsNone(self.bench.trial(EDITS, more))
        self.assertIsNone(self.bench.trial(EDITS, less))
        self.assertEqual(self.bench.trial(EDITS, other), 3)

    def test_errors_go_on(self):
        def fails(bench):
            bench.make(("strike", 0))
            raise Stop("told")
        with self.assertRaises(Stop) as told:
            self.bench.trial(EDITS, fails)
        self.assertEqual(str(told.exception), "told")
        self.is_at(self.bench, square_book((2, 0), (1, 1)), [("ring", RING, 1)])
        self.refused(BadEdit, {"index": 0, "what": "place"}, self.bench.trial, [],
                     lambda bench: bench.make(("strike", 5)))
        self.refused(BadEdit, {"index": 2, "what": "pair"}, self.bench.trial, [],
                     lambda bench: bench.run(EDITS[:2] + [("let", (0, 0))]))
        self.refused(NothingDone, {}, self.bench.trial, [],
                     lambda bench: [bench.take_back() for _ in range(9)])
        for error in (KeyboardInterrupt, SystemExit, ZeroDivisionError):
            def stops(bench, error=error):
                bench.take_back()
                raise error
            self.assertRaises(error, self.bench.trial, EDITS, stops)
            self.is_at(self.bench, square_book((2, 0), (1, 1)), [("ring", RING, 1)])

    def test_refused_edits_ask_nothing(self):
        asked = []
        self.refused(BadEdit, {"index": 5, "what": "kind"}, self.bench.trial, EDITS + [None], asked.append)
        self.refused(BadEdit, {"index": -1, "what": "many"}, self.bench.trial, None, asked.append)
        self.assertEqual(asked, [])

    def test_a_trial_within_a_trial(self):
        def inner(bench):
            self.is_at(bench, square_book((2, 0), (1, 1), (1, 0), (-1, 1)),
                       [("ring", RING, 1), ("ring", RING, 0), ("ring", BACK, 1)])
            bench.take_back()
            bench.take_back()
            return len(bench.current)

        def outer(bench):
            found = bench.trial([("ring", BACK, 1)], inner)
            self.is_at(bench, square_book((2, 0), (1, 1), (1, 0)), [("ring", RING, 1), ("ring", RING, 0)])
            self.assertRaises(Stop, bench.trial, [("strike", 0)], stops)
            self.is_at(bench, square_book((2, 0), (1, 1), (1, 0)), [("ring", RING, 1), ("ring", RING, 0)])
            bench.make(("strike", 0))
            return found

        def stops(bench):
            bench.make(("strike", 0))
            raise Stop()
        self.assertEqual(self.bench.trial([("ring", RING, 0)], outer), 2)

    def test_a_bench_within_the_trial_of_a_bench(self):
        def ask(bench):
            inner = Bench(bench.current)
            inner.run(EDITS[:2])
            bench.make(("strike", 0))
            self.is_at(inner, square_book((1, 1), (1, 0), (1, 1)), [("ring", RING, 0), ("ring", RING, 1)])
            self.assertEqual(inner.trial([("strike", 0)], lambda other: (len(other.log), len(bench.log))), (3, 3))
            return inner
        inner = self.bench.trial([("strike", 0)], ask)
        self.is_at(inner, square_book((1, 1), (1, 0), (1, 1)), [("ring", RING, 0), ("ring", RING, 1)])


class TestBooks(BenchCase):
    def test_books(self):
        bench = Bench(square_book())
        found = bench.books()
        self.assertIs(iter(found), found)
        self.assertTrue(next(found) == square_book())
        self.assertRaises(StopIteration, next, found)
        bench.run(EDITS)
        self.assertTrue(list(bench.books()) == [
            square_book(), square_book((1, 0)), square_book((1, 0), (1, 1)), square_book((1, 1)),
            square_book((1, 1), (-1, 1)), square_book((1, 1))])

    def test_any_edits(self):
        chances = a_random(681)
        bench, books, log = Bench(Book(TREE, ())), [Book(TREE, ())], []
        for _ in range(300):
            edit = chances.choice([LET, SHUT, ("ring", RING, 0), ("ring", BACK, 1), ("strike", 0), ("strike", 1),
                                   ("ring", (0, 0, 1, 0), 1), None, None])
            if edit is None:
                if log:
                    self.assertEqual(bench.take_back(), log.pop())
                    books.pop()
                else:
                    self.refused(NothingDone, {}, bench.take_back)
            else:
                try:
                    bench.make(edit)
                except BadEdit:
                    continue
                books.append(apply_edit(books[-1], edit))
                log.append(edit)
            self.is_at(bench, books[-1], log)
            self.assertTrue(list(bench.books()) == books)


if __name__ == "__main__":
    unittest.main()
