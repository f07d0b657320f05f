"""Runs the tests in and below some folders; fails if one fails, or if there is none.

Each folder with tests is run by a python of its own, as `python3 -m unittest` runs it,
so that files of one name in two folders do not get into each other's way.
"""

import os
import subprocess
import sys
import unittest


def folders_with_tests(top):
    """All folders in and below a folder that hold a file test_*.py."""
    found = []
    for folder, folders, names in os.walk(top):
        folders.sort()
        if any(name.startswith("test_") and name.endswith(".py") for name in names):
            found.append(folder)
    return found


def run_folder(folder):
    """Run the tests of one folder; print how many passed and failed."""
    sys.path.insert(0, os.path.abspath(folder))
    suite = unittest.TestSuite()
    for name in sorted(os.listdir(folder)):
        if name.startswith("test_") and name.endswith(".py"):
            suite.addTests(unittest.defaultTestLoader.loadTestsFromName(name[:-3]))
    result = unittest.TextTestRunner(verbosity=1).run(suite)
    faults = [test for test, _ in result.failures + result.errors] + list(result.unexpectedSuccesses)
    # Several parts of one test can fail; the test counts once.
    failed = len({getattr(test, "test_case", test).id() for test in faults})
    passed = max(result.testsRun - failed - len(result.skipped), 0)
    print(f"{passed} {failed}")
    return 0 if result.wasSuccessful() else 1


def main(tops):
    passed = failed = 0
    for folder in [folder for top in tops for folder in folders_with_tests(top)]:
        print(f"== {folder}", flush=True)
        call = [sys.executable, os.path.abspath(__file__), "--folder", folder]
        done = subprocess.run(call, stdout=subprocess.PIPE, text=True, check=False)
        counts = done.stdout.split("\n")[-2].split() if done.stdout.endswith("\n") else []
        if len(counts) != 2 or not all(count.isdigit() for count in counts):
            # The run broke off ahead of its counts.
            counts = ["0", "1"]
        passed, failed = passed + int(counts[0]), failed + int(counts[1])
        if done.returncode != 0 and counts[1] == "0":
            failed += 1
    print(f"{passed} passed, {failed} failed")
    return 0 if failed == 0 and passed > 0 else 1


if __name__ == "__main__":
    sys.exit(run_folder(sys.argv[2]) if sys.argv[1] == "--folder" else main(sys.argv[1:]))
