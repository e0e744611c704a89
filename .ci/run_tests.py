"""Runs every test_*.py under the given folders and prints the totals.

The first folder must hold tests; the other ones may be missing or empty.
"""

import os
import subprocess
import sys


def test_files(folder):
    found = []
    for place, _, names in os.walk(folder):
        found += [os.path.join(place, name) for name in names if name.startswith("test_") and name.endswith(".py")]
    return sorted(found)


def run(path):
    """Runs one file by unittest in a process of its own; the numbers of tests passed and failed."""
    folder, name = os.path.split(path)
    code = (
        "import sys, unittest\n"
        f"sys.path.insert(0, {folder!r})\n"
        f"result = unittest.main(module={name[:-3]!r}, argv=['unittest'], exit=False).result\n"
        "bad = len(result.failures) + len(result.errors) + len(result.unexpectedSuccesses)\n"
        "print('counted', result.testsRun, bad)\n"
    )
    done = subprocess.run([sys.executable, "-c", code], stdout=subprocess.PIPE, text=True)
    last = (done.stdout.strip().splitlines() or [""])[-1].split()
    if done.returncode != 0 or len(last) != 3 or last[0] != "counted":
        return 0, 1
    ran, bad = int(last[1]), int(last[2])
    return max(ran - bad, 0), bad


def main(folders):
    files = [test_files(folder) for folder in folders]
    if not files[0]:
        print("no tests found")
        return 1
    passed = failed = 0
    for path in [path for paths in files for path in paths]:
        print(f"== {path}", flush=True)
        good, bad = run(path)
        passed += good
        failed += bad
    print(f"{passed} passed, {failed} failed")
    return 1 if failed else 0


sys.exit(main(sys.argv[1:]))
