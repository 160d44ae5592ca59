"""Runs the test files of the project and of ../shared/tests, and tells how many tests ran."""

import multiprocessing
import sys
import unittest
from concurrent.futures import ProcessPoolExecutor
from pathlib import Path

ROOT = Path(__file__).resolve().parent.parent
OWN_TESTS = ROOT / "tests"
SHARED_TESTS = ROOT.parent / "shared" / "tests"


def folders_with_tests(top):
    if not top.is_dir():
        sys.exit(f"there is no folder {top}")
    return sorted({path.parent for path in top.rglob("test_*.py")})


def run_folder(folder):
    sys.path[:0] = [str(folder), str(ROOT)]
    names = sorted(path.stem for path in folder.glob("test_*.py"))
    suite = unittest.TestLoader().loadTestsFromNames(names)
    result = unittest.TextTestRunner(stream=sys.stdout).run(suite)
    failed = len(result.failures) + len(result.errors) + len(result.unexpectedSuccesses)
    sys.stdout.flush()
    return result.testsRun, failed, len(result.skipped)


def run_apart(folder):
    # Two folders may hold files of the same name, so each has a Python of its own.
    print(f"-- {folder}", flush=True)
    fresh = multiprocessing.get_context("spawn")
    with ProcessPoolExecutor(max_workers=1, mp_context=fresh) as pool:
        return pool.submit(run_folder, folder).result()


def main():
    own = [run_apart(folder) for folder in folders_with_tests(OWN_TESTS)]
    shared = [run_apart(folder) for folder in folders_with_tests(SHARED_TESTS)]
    ran, failed, skipped = (sum(counts) for counts in zip(*(own + shared), strict=True))
    print(f"tests run: {ran}")
    print(f"{max(0, ran - failed - skipped)} passed, {failed} failed, {skipped} skipped")
    # A run in which the project's own tests are missing has shown nothing.
    if failed or not sum(counts[0] for counts in own):
        sys.exit(1)


if __name__ == "__main__":
    main()
