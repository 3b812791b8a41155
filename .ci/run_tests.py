"""Runs all tests below some folders; fails if one fails, or if a folder's files hold none.

The first folder must hold tests; the others may be without any file of tests.
"""

import pathlib
import subprocess
import sys
import unittest


def folders_below(top):
    """All folders at or below one that hold files of tests."""
    return sorted({path.parent for path in pathlib.Path(top).rglob("test_*.py")})


def run_folder(folder):
    """Runs the tests of one folder; tells whether there were some and all passed."""
    suite = unittest.TestLoader().discover(folder, top_level_dir=folder)
    result = unittest.TextTestRunner(stream=sys.stdout).run(suite)
    if result.testsRun == 0:
        print(f"{folder}: no test was run")
    return result.wasSuccessful() and result.testsRun > 0


def main(tops):
    good = True
    for number, top in enumerate(tops):
        if not pathlib.Path(top).is_dir():
            print(f"{top}: there is no such folder")
            good = False
            continue
        folders = folders_below(top)
        if not folders:
            print(f"{top}: no files of tests")
            good = good and number > 0
        for folder in folders:
            # A process each, so that files of the same name in two folders don't get in each other's way.
            print(f"{folder}:", flush=True)
            done = subprocess.run([sys.executable, __file__, "--folder", str(folder)])
            good = good and done.returncode == 0
    return good


if __name__ == "__main__":
    if sys.argv[1] == "--folder":
        sys.exit(0 if run_folder(sys.argv[2]) else 1)
    sys.exit(0 if main(sys.argv[1:]) else 1)
