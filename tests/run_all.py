"""Run every test beside this file, and every one of ../shared/tests, and close with how many passed and failed.

Each folder has a process of its own, so that files of the same name do not meet.
"""

import pathlib
import subprocess
import sys
import unittest

HERE = pathlib.Path(__file__).resolve().parent
ROOT = HERE.parent
SHARED = ROOT.parent / "shared" / "tests"


class Counting(unittest.TextTestResult):
    """A result that also counts the tests that passed."""

    passed = 0

    def addSuccess(self, test):
        super().addSuccess(test)
        self.passed += 1

    def addExpectedFailure(self, test, err):
        super().addExpectedFailure(test, err)
        self.passed += 1


def run_folder(folder):
    """Run the tests of one folder; the last line on standard output is how many passed, failed and were skipped."""
    sys.path.insert(0, str(ROOT))
    suite = unittest.defaultTestLoader.discover(folder, pattern="test_*.py", top_level_dir=folder)
    result = unittest.TextTestRunner(stream=sys.stderr, resultclass=Counting).run(suite)
    failed = result.testsRun - result.passed - len(result.skipped)
    if not result.wasSuccessful():
        failed = max(failed, 1)
    print(result.passed, failed, len(result.skipped), flush=True)


def counts_of(folder):
    """How many tests of a folder passed, failed and were skipped, each folder run in a process of its own."""
    found = subprocess.run([sys.executable, __file__, str(folder)], stdout=subprocess.PIPE, text=True)
    lines = found.stdout.splitlines()
    if found.returncode != 0 or not lines:
        return (0, 1, 0)
    return tuple(int(word) for word in lines[-1].split())


def main():
    """Run all folders; the exit code is 0 if tests ran and none failed."""
    folders = [HERE]
    if SHARED.is_dir() and list(SHARED.rglob("test_*.py")):
        folders.append(SHARED)
    passed, failed, skipped = (sum(column) for column in zip(*[counts_of(folder) for folder in folders]))
    print(f"{passed} passed, {failed} failed" + (f", {skipped} skipped" if skipped else ""), flush=True)
    return 0 if passed > 0 and failed == 0 else 1


if __name__ == "__main__":
    if len(sys.argv) > 1:
        run_folder(sys.argv[1])
    else:
        sys.exit(main())
