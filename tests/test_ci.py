""".ci/run runs every test of the project and under ../shared/tests, and fails if one fails."""

import os
import shutil
import subprocess
import tempfile
import unittest
from pathlib import Path

ROOT = Path(__file__).resolve().parent.parent
TEST = """
import unittest
from pathlib import Path
{head}

class Case(unittest.TestCase):
    def test_it(self):
        Path({mark!r}).write_text("ran")
        {row}
"""


class Run(unittest.TestCase):
    def setUp(self):
        self.top = Path(tempfile.mkdtemp())
        self.addCleanup(shutil.rmtree, self.top)
        self.project = self.top / "main"
        (self.project / ".ci").mkdir(parents=True)
        shutil.copy(ROOT / ".ci" / "run", self.project / ".ci" / "run")
        shutil.copytree(ROOT / "ownrail", self.project / "ownrail", ignore=shutil.ignore_patterns("__pycache__"))
        (self.top / "shared" / "tests").mkdir(parents=True)
        (self.top / "shared" / "tests" / "README.md").write_text("Tests.\n")
        self.marks = []

    def put(self, path, row="pass", head="from ownrail.engines import RAILS"):
        mark = self.top / f"mark{len(self.marks)}"
        self.marks.append(mark)
        file = self.top / path
        file.parent.mkdir(parents=True, exist_ok=True)
        file.write_text(TEST.format(head=head, mark=str(mark), row=row))

    def ends_with(self, good):
        settings = {key: worth for key, worth in os.environ.items() if key != "PYTHONPATH"}
        done = subprocess.run(
            ["bash", ".ci/run"], cwd=self.project, env=settings, stdin=subprocess.DEVNULL,
            stdout=subprocess.PIPE, stderr=subprocess.STDOUT, text=True)
        self.assertEqual(done.returncode == 0, good, done.stdout)
        return done.stdout

    def test_all_run_and_pass(self):
        for path in ("main/tests/test_a.py", "main/tests/test_b.py", "main/tests/deep/test_a.py",
                     "shared/tests/test_a.py", "shared/tests/test_c.py"):
            self.put(path)
        self.ends_with(True)
        self.assertTrue(all(mark.exists() for mark in self.marks))

    def test_no_shared_test_is_no_failure(self):
        self.put("main/tests/test_a.py")
        self.ends_with(True)

    def test_one_of_the_project_fails(self):
        for bad in ("a", "b", "c"):
            for name in ("a", "b", "c"):
                self.put(f"main/tests/test_{name}.py", row="self.fail()" if name == bad else "pass")
            self.ends_with(False)

    def test_one_of_the_shared_fails(self):
        self.put("main/tests/test_a.py")
        for bad in ("a", "b"):
            for name in ("a", "b"):
                self.put(f"shared/tests/test_{name}.py", row="self.fail()" if name == bad else "pass")
            self.ends_with(False)

    def test_those_behind_a_failed_one_run_all_the_same(self):
        self.put("main/tests/test_a.py", row="self.fail()")
        self.put("main/tests/test_b.py")
        self.put("shared/tests/test_a.py")
        self.ends_with(False)
        self.assertTrue(all(mark.exists() for mark in self.marks))

    def test_a_file_that_cannot_be_imported_fails(self):
        self.put("main/tests/test_a.py")
        self.put("shared/tests/test_b.py", head="from ownrail.nowhere import nothing")
        self.ends_with(False)

    def test_a_project_without_tests_fails(self):
        self.put("shared/tests/test_b.py")
        self.ends_with(False)

    def test_from_another_folder(self):
        self.put("main/tests/test_a.py")
        done = subprocess.run(
            ["bash", str(self.project / ".ci" / "run")], cwd="/", stdin=subprocess.DEVNULL,
            stdout=subprocess.DEVNULL, stderr=subprocess.DEVNULL)
        self.assertEqual(done.returncode, 0)
        self.assertTrue(self.marks[0].exists())


class Tree(unittest.TestCase):
    def test_every_test_stands_where_run_looks(self):
        for path in ROOT.rglob("test*.py"):
            self.assertEqual(path.relative_to(ROOT).parts[0], "tests", path)
            self.assertTrue(path.name.startswith("test_"), path)


if __name__ == "__main__":
    unittest.main()
