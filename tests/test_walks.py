"""What a loop or a comprehension walks is not changed in it: the package, and sources to try the check on."""

import ast
import pathlib
import textwrap
import unittest

import sheetproofs
from tests.walks import bad_walks

# Each source with the line of its only bad walk and what is changed there.
BAD = (
    # By its name.
    ("def f(xs):\n    for x in xs:\n        xs.append(x)", 2, "xs"),
    ("def f(xs):\n    for x in xs:\n        if x:\n            xs.remove(x)\n            return xs", 2, "xs"),
    ("def f(xs):\n    for k in xs:\n        xs[k] = 0", 2, "xs"),
    ("def f(xs):\n    for k in xs:\n        xs[k] += 1", 2, "xs"),
    ("def f(xs):\n    for k in xs:\n        del xs[k]", 2, "xs"),
    ("def f(xs):\n    for k in xs:\n        xs[1:] = [k]", 2, "xs"),
    ("def f(xs):\n    for x in xs:\n        xs += [x]", 2, "xs"),
    ("def f(xs, ys):\n    for x in xs:\n        for y in ys:\n            xs.insert(x, y)", 2, "xs"),
    ("def f(xs):\n    for k, x in enumerate(xs):\n        xs[k] = x", 2, "xs"),
    ("def f(xs, ys):\n    for x, y in zip(xs, ys):\n        ys.pop()", 2, "ys"),
    ("def f(xs):\n    for x in reversed(xs):\n        xs.extend(x)", 2, "xs"),
    ("def f(d):\n    for k, x in d.items():\n        d.setdefault(x, k)", 2, "d"),
    ("def f(d):\n    for k in d.keys():\n        d.update(k)", 2, "d"),
    ("def f(d):\n    for k in d.values():\n        d.clear()", 2, "d"),
    ("def f(xs):\n    return [xs.pop() for x in xs]", 2, "xs"),
    ("def f(xs):\n    return {k: 0 for k in range(2) for x in xs if xs.pop()}", 2, "xs"),
    ("def f(xs):\n    return any(xs.add(x) for x in xs)", 2, "xs"),
    # By another name of it.
    ("def f(xs):\n    ys = xs\n    for x in xs:\n        ys.append(x)", 3, "ys"),
    ("def f(xs):\n    ys = xs\n    zs = ys\n    for x in zs:\n        xs.append(x)", 4, "xs"),
    ("def f(xs):\n    ys, k = xs, 0\n    for x in xs:\n        ys.append(k)", 3, "ys"),
    ("def f(xs):\n    pairs = zip(xs, xs)\n    for x in pairs:\n        xs.append(x)", 3, "xs"),
    ("def f(xs):\n    while xs:\n        ys = []\n        for x in xs:\n            ys.append(x)\n"
     "        xs = ys", 4, "ys"),
    # By a choice.
    ("def f(xs, ys):\n    for x in xs if ys else ys:\n        ys.append(x)", 2, "ys"),
    ("def f(xs, ys):\n    for x in xs or ys:\n        xs.append(x)", 2, "xs"),
    ("def f(xs, ys):\n    for x in xs and ys:\n        ys.append(x)", 2, "ys"),
    ("def f(xs, ys):\n    zs = xs if ys else []\n    for x in xs:\n        zs.append(x)", 3, "zs"),
    ("def f(xs, ys):\n    for x in xs:\n        (ys or xs).append(x)", 2, "xs"),
    # By a field or an item.
    ("def f(box):\n    for x in box.rows:\n        box.rows.append(x)", 2, ".rows"),
    ("def f(box, other):\n    for x in box.rows:\n        other.rows[x] = 0", 2, ".rows"),
    ("def f(box):\n    rows = box.rows\n    for x in rows:\n        box.rows.append(x)", 3, ".rows"),
    ("def f(rows, k):\n    for x in rows[k]:\n        rows[k].append(x)", 2, "rows[]"),
    ("def f(rows, k):\n    row = rows[k]\n    for x in rows[0]:\n        row.append(x)", 3, "row"),
    ("def f(rows):\n    for row in rows:\n        for x in row:\n            rows[0].append(x)", 3, "rows[]"),
    ("def f(rows):\n    for k, row in rows:\n        for x in row:\n            rows[0][1].append(x)", 3, "rows[][]"),
    ("def f(d, k):\n    for x in d[k]:\n        d.get(k, []).append(x)", 2, "d[]"),
    ("def f(d, k):\n    row = d.setdefault(k, [])\n    for x in row:\n        d[k].append(x)", 3, "d[]"),
    # By a call of a function that changes something, or that yields.
    ("def g(ys):\n    ys.append(1)\ndef f(xs):\n    for x in xs:\n        g(xs)", 4, "xs"),
    ("def h(xs):\n    for x in xs:\n        g(ys=xs)\ndef g(ys):\n    zs = ys\n    zs.clear()", 2, "xs"),
    ("class A:\n    def g(self):\n        self.rows[0] = 1\n    def f(self):\n        for x in self.rows:\n"
     "            self.g()", 5, ".rows"),
    ("class A:\n    def g(self):\n        self.h()\n    def f(self):\n        for x in self.rows:\n"
     "            self.g()\n    def h(self):\n        self.rows.pop()", 5, ".rows"),
    ("def g(ys):\n    yield ys\ndef f(xs):\n    for x in g(xs):\n        xs.append(x)", 4, "xs"),
    ("def g(ys):\n    yield ys\ndef f(xs):\n    for x in list(g(xs)):\n        xs.append(x)", 4, "xs"),
    ("class A:\n    def g(self):\n        for row in self.rows:\n            yield row\ndef f(box):\n"
     "    for x in box.g():\n        box.rows.append(x)", 6, ".rows"),
)
GOOD = (
    "def f(xs, ys):\n    for x in xs:\n        ys.append(x)\n    xs.append(ys)",
    "def f(xs):\n    for x in list(xs):\n        xs.append(x)",
    "def f(d):\n    for k in sorted(d):\n        d.pop(k)",
    "def f(xs):\n    for x in xs[1:]:\n        xs.append(x)",
    "def f(xs):\n    for k in range(len(xs)):\n        xs[k] = 0",
    "def f(xs):\n    ys = list(xs)\n    for x in xs:\n        ys.append(x)",
    "def f(xs):\n    ys = [x for x in xs]\n    for x in xs:\n        ys.append(x)",
    "def f(xs):\n    while xs:\n        ys = []\n        for x in list(xs):\n            ys.append(x)\n        xs = ys",
    "def f(xs):\n    total = 0\n    for x in xs:\n        total += x\n    return total",
    "def f(rows, row):\n    for row in rows:\n        row.append(1)",
    "def f(rows):\n    for x in rows[0]:\n        rows[1] = x",
    "def f(box):\n    for x in box.rows:\n        box.marks.append(x)",
    "def f(xs):\n    xs.append(1)\n    return [x for x in xs]",
    "def g(ys):\n    zs = list(ys)\n    zs.append(1)\ndef f(xs):\n    for x in xs:\n        g(xs)",
    "def g(ys):\n    yield ys\ndef f(xs):\n    rows = list(g(xs))\n    for x in rows:\n        xs.append(x)",
    "def f(a):\n    a = a[0]\n    for x in range(2):\n        a = a[x]",
)


class TestWalks(unittest.TestCase):
    def test_package(self):
        folder = pathlib.Path(sheetproofs.__file__).parent
        trees = [ast.parse(path.read_text(), path.name) for path in sorted(folder.glob("*.py"))]
        self.assertGreater(len(trees), 50)
        self.assertEqual(bad_walks(trees), [])

    def test_bad_sources(self):
        for text, line, thing in BAD:
            with self.subTest(text):
                self.assertEqual([found[1:] for found in bad_walks([ast.parse(text)])], [(line, thing)])

    def test_good_sources(self):
        for text in GOOD:
            with self.subTest(text):
                self.assertEqual(bad_walks([ast.parse(text)]), [])

    def test_loop_that_swaps_two_lists(self):
        text = """
            def least(many, step, is_good):
                found = []
                level = [((), 0)]
                while level:
                    longer = []
                    for choice, state in level:
                        if is_good(state):
                            found.append(choice)
                            continue
                        for place in range(many):
                            longer.append((choice + (place,), step(state, place)))
                    level = longer
                return found
            """
        self.assertEqual(bad_walks([ast.parse(textwrap.dedent(text))]), [("least", 7, "longer")])


if __name__ == "__main__":
    unittest.main()
