"""Runs every test of the folders handed in, tells how many ran, and fails where one fails.

Each folder has a process of its own, since two folders may have files of the same name.
"""

import pathlib
import subprocess
import sys
import unittest


def folders_with_tests(tops):
    """Tells every folder, at or below these, that holds a file test_*.py."""
    return sorted({path.parent for top in tops for path in pathlib.Path(top).rglob("test_*.py")})


def run_folder(folder):
    """Runs the tests of one folder in this process and prints how many passed and failed."""
    suite = unittest.TestLoader().discover(folder, pattern="test_*.py", top_level_dir=folder)
    result = unittest.TextTestRunner(stream=sys.stdout).run(suite)
    # A file that can't be loaded counts as a test that fails, so nothing is passed over in silence.
    failed = len(result.failures) + len(result.errors) + len(result.unexpectedSuccesses)
    print("counted", result.testsRun, failed, flush=True)
    return 0 if result.wasSuccessful() else 1


def counts_of(folder):
    """Runs one folder in a process of its own; tells how many tests ran and how many failed."""
    done = subprocess.run([sys.executable, __file__, "--folder", str(folder)], stdout=subprocess.PIPE, text=True)
    print(f"tests in {folder}:")
    print(done.stdout)
    last = done.stdout.strip().split("\n")[-1].split(" ")
    if last[0] != "counted":
        return 1, 1
    ran, failed = int(last[1]), int(last[2])
    if done.returncode != 0 and failed == 0:
        failed = 1
    return max(ran, failed), failed


def main(tops):
    ran = failed = 0
    for folder in folders_with_tests(tops):
        some, wrong = counts_of(folder)
        ran, failed = ran + some, failed + wrong
    print(f"Ran {ran} tests")
    print(f"{ran - failed} passed, {failed} failed")
    return 1 if failed or not ran else 0


if __name__ == "__main__":
    if sys.argv[1] == "--folder":
        sys.exit(run_folder(sys.argv[2]))
    sys.exit(main(sys.argv[1:]))
