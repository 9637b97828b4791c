"""Run the tests of one folder, print how many ran, and fail if one failed or none ran.

Called with a word for the last line, the folder of the tests, and the folder that they import from.
"""

import pathlib
import sys
import unittest


def main(word, folder, top):
    sys.path.insert(0, str(pathlib.Path(__file__).resolve().parent.parent))
    tests = unittest.defaultTestLoader.discover(folder, pattern="test_*.py", top_level_dir=top)
    result = unittest.TextTestRunner(stream=sys.stdout, verbosity=1).run(tests)
    failed = len(result.failures) + len(result.errors) + len(result.unexpectedSuccesses)
    skipped = len(result.skipped)
    print(f"{word}: {result.testsRun - failed - skipped} passed, {failed} failed, {skipped} skipped")
    return 0 if result.testsRun > 0 and result.wasSuccessful() else 1


if __name__ == "__main__":
    sys.exit(main(*sys.argv[1:]))
