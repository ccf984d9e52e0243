"""What holds over the whole program: no clock, no chance, no file, and the same told each time."""

import os
import pathlib
import subprocess
import sys
import unittest
from unittest import mock

from earworks.between import apart, numbered, ways
from earworks.ears import eared, open_eared, turned
from earworks.texts import read, written
from earworks.webs import Web
from helper import larger_webs, told_by, two_points, untied_points

HERE = pathlib.Path(__file__).resolve().parent
ELSEWHERE = ("builtins.open", "builtins.input", "builtins.print", "io.open", "os.open", "os.urandom", "os.getenv",
             "os.stat", "os.listdir", "random.random", "random.choice", "random.getrandbits", "random.shuffle",
             "time.time", "time.monotonic", "time.perf_counter", "time.sleep", "socket.socket")


def some_webs():
    return list(larger_webs(1))[::4]


def all_told(webs):
    told = []
    for web in webs:
        told += [told_by(eared(web)), told_by(turned(web)), written(web), read(written(web)).ties()]
        told += [told_by(numbered(web, one, other)) for one, other in two_points(web)]
        told += [told_by(apart(web, one, other, many)) for one, other in two_points(web) for many in (1, 2, 3, 4)]
        told += [told_by(ways(web, one, other, many)) for one, other in untied_points(web) for many in (1, 2, 3, 4)]
        if web.points > 2:
            told.append(told_by(open_eared(web)))
    return told


def told_with_seed(seed):
    paths = os.pathsep.join([str(HERE.parent), str(HERE)])
    seen = {**os.environ, "PYTHONHASHSEED": seed, "PYTHONPATH": paths, "PYTHONDONTWRITEBYTECODE": "1"}
    asked = "from test_whole import all_told, some_webs; print(all_told(some_webs()))"
    done = subprocess.run([sys.executable, "-c", asked], env=seen, capture_output=True, text=True, check=True)
    return done.stdout


class Whole(unittest.TestCase):
    def test_no_clock_chance_or_file(self):
        webs = some_webs()
        expected = all_told(webs)
        patches = [mock.patch(name, side_effect=RuntimeError(name)) for name in ELSEWHERE]
        for patch in patches:
            patch.start()
        try:
            told = all_told(webs)
        finally:
            for patch in patches:
                patch.stop()
        self.assertEqual(told, expected)

    def test_the_same_whichever_order_sets_have(self):
        self.assertEqual(len({told_with_seed(seed) for seed in ("0", "1", "2")}), 1)

    def test_the_same_of_an_equal_web(self):
        webs = some_webs()
        again = [Web(web.points, web.ties()) for web in webs]
        self.assertEqual(all_told(webs), all_told(again))

    def test_webs_stay(self):
        webs = some_webs()
        before = [(web.points, web.ties()) for web in webs]
        all_told(webs)
        self.assertEqual([(web.points, web.ties()) for web in webs], before)


if __name__ == "__main__":
    unittest.main()
