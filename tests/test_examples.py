"""The examples of the document's interface section, as they stand there, and those of README.md."""

import doctest
import pathlib
import unittest

EXAMPLES = {
    "barclips/grids.py": """
>>> from barclips.grids import Grid
>>> (17 // Grid(8, 3), str(Grid(6, 1) & Grid(4, 3)))
(1, '12+7')
""",
    "barclips/gaps.py": """
>>> from barclips.grids import Grid
>>> from barclips.gaps import cycle_of
>>> cycle_of([Grid(2), Grid(4, 1), Grid(4, 3)])
[0, 1, 0, 2]
""",
    "barclips/sounds.py": """
>>> from barclips.grids import Grid
>>> from barclips.sounds import Clip
>>> Clip("fill", grid=Grid(16, 8), length=16, rounds=2, guards=(0, 12)).words()
['fill', '16+8', '16', 'rounds', '2', 'guards', '0', '12']
""",
    "barclips/waits.py": """
>>> from barclips.grids import Grid
>>> from barclips.sounds import Clip, Lead
>>> from barclips.tracks import Track
>>> from barclips.stages import Stage
>>> from barclips.waits import longest
>>> drums = Track("drums", Clip("kick", grid=Grid(4), length=8, guards=(0,)))
>>> metal = Track("metal", Clip("hat", grid=Grid(4), length=16, guards=(0,)))
>>> wait = longest(Stage([drums, metal], [Lead("horn", grid=Grid(4), length=6)]), "horn")
>>> (wait.bars, wait.tree[1][0])
(3, ('drums', 0, 'kick', (1, (('metal', 0, 'hat', (3, ())),))))
""",
    "barclips/desks.py": """
>>> from barclips.grids import Grid
>>> from barclips.sounds import Clip, Lead
>>> from barclips.tracks import Track
>>> from barclips.stages import Stage
>>> from barclips.desks import Desk
>>> drums = Track("drums", Clip("kick", grid=Grid(4), length=8, guards=(0,)))
>>> desk = Desk(Stage([drums], [Lead("horn", grid=Grid(4), length=6)]))
>>> first = desk.press("kick")
>>> bar = desk.hold("horn")
>>> desk.advance(8)
[(4, 'begins', 'kick'), (8, 'begins', 'horn')]
""",
    "README.md": (pathlib.Path(__file__).parent.parent / "README.md").read_text(encoding="utf-8"),
}


class ExampleTests(unittest.TestCase):
    def test_examples(self):
        for name, text in EXAMPLES.items():
            with self.subTest(name):
                example = doctest.DocTestParser().get_doctest(text, {}, name, name, 0)
                self.assertTrue(example.examples)
                report = []
                result = doctest.DocTestRunner(verbose=False).run(example, out=report.append)
                self.assertEqual(result.failed, 0, "".join(report))


if __name__ == "__main__":
    unittest.main()
