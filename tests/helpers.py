"""What several test files need: a case that checks errors, and pictures to test with."""

import functools
import random
import signal
import unittest

from sheetproofs.pictures import Picture, full_picture

NO_SEQUENCES = (None, 5, True, "0 0", b"00", {0: 0}, {1, 2}, iter(()), range(2), object())
NO_WHOLES = (None, True, False, 1.0, "1", b"1", (1,), [1], {}, object())


class Case(unittest.TestCase):
    """A test case that knows how errors are checked."""

    def refused(self, error, attributes, function, *args):
        """Check that the call raises just this error with these attributes (a dict)."""
        try:
            result = function(*args)
        except Exception as raised:
            self.assertIs(raised.__class__, error, (raised, args))
            for name in attributes:
                self.assertEqual(getattr(raised, name), attributes[name], args)
                self.assertIs(getattr(raised, name).__class__, attributes[name].__class__)
            return raised
        self.fail(f"{function.__name__} returned {result!r} for {args!r}")

    def is_tuples(self, thing):
        """Check that the thing is made of tuples, and of integers that are no bools."""
        if isinstance(thing, tuple):
            self.assertIs(thing.__class__, tuple)
            for item in thing:
                self.is_tuples(item)
        else:
            self.assertIs(thing.__class__, int)

    def exactly(self, found, wanted):
        """Check that a result made of tuples is the one wanted."""
        self.is_tuples(found)
        self.assertEqual(found, wanted)

    def check_result(self, kind, names):
        """Check that a result keeps what it is given, and is equal if all its attributes are."""
        names = names.split()
        values = [[at] for at in range(len(names))]
        result = kind(*values)
        for name, value in zip(names, values):
            self.assertIs(getattr(result, name), value)
        self.assertTrue(result == kind(*[[at] for at in range(len(names))]))
        for at in range(len(names)):
            other = kind(*[(k,) if k == at else [k] for k in range(len(names))])
            self.assertFalse(result == other)
            self.assertTrue(result != other)
        for other in (tuple(values), values, None, object()):
            self.assertFalse(result == other)


def in_good_time(test):
    """Make a test fail if it is not done within a minute; it needs a second or two."""
    def too_long(number, frame):
        raise AssertionError("this is not done in good time")

    @functools.wraps(test)
    def timed(*args):
        before = signal.signal(signal.SIGALRM, too_long)
        signal.alarm(60)
        try:
            return test(*args)
        finally:
            signal.alarm(0)
            signal.signal(signal.SIGALRM, before)
    return timed


def a_random(seed):
    """Return a row of chances that is the same in each run."""
    return random.Random(seed)


def some_pictures():
    """Return pictures of many shapes, those that the document names among them."""
    chances = a_random(11)
    pictures = [
        Picture(1, 1, ()),
        Picture(1, 1, ((0, 0),)),
        Picture(5, 5, ()),
        Picture(3, 1, ()),
        Picture(2, 2, [(1, 1), (0, 0), (0, 1), (1, 0)]),
        Picture(4, 4, [(0, 0), (0, 1), (1, 0), (1, 1), (2, 2), (2, 3), (3, 2), (3, 3)]),
        Picture(5, 4, [(0, 1), (0, 3), (2, 1), (2, 3), (4, 0)]),
        Picture(3, 2, [(0, 1), (1, 0), (2, 0), (2, 1)]),
        Picture(2, 3, [(0, 1), (0, 2), (1, 0), (1, 2)]),
        Picture(3, 3, [(0, 0), (0, 1), (1, 1), (1, 2), (2, 2), (2, 0)]),
        Picture(5, 5, [(p, (p + k) % 5) for p in range(5) for k in (0, 1)]),
    ]
    for points in range(1, 6):
        for walls in (1, 3, 5):
            pictures.append(full_picture(points, walls))
    for _ in range(25):
        points, walls = chances.randint(1, 5), chances.randint(1, 5)
        part = chances.choice((0.3, 0.6, 0.9))
        pairs = [(p, w) for p in range(points) for w in range(walls) if chances.random() < part]
        chances.shuffle(pairs)
        pictures.append(Picture(points, walls, pairs))
    return pictures


def path_between(pairs, point, wall):
    """Return the corners of a way from the point to the wall over the pairs, or None."""
    ways = [[("p", point)]]
    met = [("p", point)]
    for way in ways:
        if way[-1] == ("w", wall):
            return way
        for p, w in pairs:
            for here, there in ((("p", p), ("w", w)), (("w", w), ("p", p))):
                if here == way[-1] and there not in met:
                    met.append(there)
                    ways.append(way + [there])
    return None


def closing_tours(picture):
    """Return for each pair that the pairs before close to a ring its place and that ring's tour."""
    tours = {}
    for place, (point, wall) in enumerate(picture.pairs):
        way = path_between(picture.pairs[:place], point, wall)
        if way is not None:
            tour = [0] * len(picture.pairs)
            tour[place] = 1
            for at in range(len(way) - 1):
                pair = tuple(number for _, number in sorted(way[at:at + 2]))
                tour[picture.pairs.index(pair)] = 1 if at % 2 else -1
            tours[place] = tuple(tour)
    return tours


def some_tours(picture, chances, many=3, bound=4):
    """Return tours of the picture, made of rings."""
    tours = []
    for _ in range(many):
        tour = [0] * len(picture.pairs)
        for basis in closing_tours(picture).values():
            times = chances.randint(-bound, bound)
            tour = [number + times * step for number, step in zip(tour, basis)]
        tours.append(tuple(tour))
    return tours


def sums_of(picture, tour):
    """Return the sums of the numbers at all points and at all walls."""
    at_points = [0] * picture.points
    at_walls = [0] * picture.walls
    for (point, wall), number in zip(picture.pairs, tour):
        at_points[point] += number
        at_walls[wall] += number
    return at_points, at_walls
