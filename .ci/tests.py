"""Runs the tests of each folder by `python3 -m unittest` from the top of the repository, and counts them."""
import re
import subprocess
import sys
from pathlib import Path


def run_folder(folder):
    """(passed, failed) of the tests of a folder; a folder that is not there or holds no test has none."""
    if not list(Path(folder).rglob("test_*.py")):
        return (0, 0)
    print(f"tests in {folder}", flush=True)
    command = [sys.executable, "-m", "unittest", "discover", "-s", folder, "-t", folder]
    done = subprocess.run(command, stdin=subprocess.DEVNULL, stderr=subprocess.PIPE, text=True, check=False)
    print(done.stderr, end="", flush=True)
    ran = re.findall(r"^Ran (\d+) tests?", done.stderr, re.MULTILINE)
    many = int(ran[-1]) if ran else 0
    if done.returncode == 0 and many > 0:
        return (many, 0)
    counts = re.findall(r"(?:failures|errors|unexpected successes)=(\d+)", done.stderr.rstrip().rpartition("\n")[2])
    failed = max(1, sum(int(count) for count in counts))
    return (max(0, many - failed), failed)


def main(folders):
    results = [run_folder(folder) for folder in folders]
    passed, failed = (sum(counts) for counts in zip(*results))
    print(f"{passed} passed, {failed} failed")
    return 0 if failed == 0 and passed > 0 else 1


sys.exit(main(sys.argv[1:]))
