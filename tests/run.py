"""Runs the tests of one folder, test_*.py; the last line tells how many passed and failed.

    python3 tests/run.py FOLDER
"""

import sys
import unittest


def main(folder):
    sys.path.insert(0, folder)
    suite = unittest.defaultTestLoader.discover(folder, pattern="test_*.py", top_level_dir=folder)
    result = unittest.TextTestRunner(stream=sys.stdout, verbosity=1).run(suite)
    failed = len(result.failures) + len(result.errors) + len(result.unexpectedSuccesses)
    passed = max(0, result.testsRun - failed - len(result.skipped))
    print(f"{passed} passed, {failed} failed")
    return 0 if result.wasSuccessful() and result.testsRun > 0 else 1


if __name__ == "__main__":
    sys.exit(main(sys.argv[1]))
