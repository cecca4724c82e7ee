"""The examples of the document, word for word."""

import unittest

from tests.sessions import run_session

CONTENTS = """
>>> from gridlanes.contents import Words, height_in, least_width, lines_in, most_width
>>> w = Words((30, 20, (25, 2)), 5, 12, 9)
>>> [least_width(w), most_width(w), lines_in(w, 55), height_in(w, 55)]
[30, (145, 2), [(0, 2), (2, 3)], 24]
"""

GRID = """
>>> from gridlanes.pages import Grid
>>> Grid((("fill", ("auto",)),))
raises NoGrid('columns', -1)
"""

WRONG = """
>>> from gridlanes.pages import Grid
>>> Grid((("fill", ("auto",)),))
raises NoGrid('rows', -1)
>>> Grid((40,)).columns
(41,)
>>> Grid().columns
raises NoGrid('columns', -1)
"""


class ExamplesTest(unittest.TestCase):

    def check(self, text):
        pairs = run_session(text)
        self.assertGreater(len(pairs), 0)
        for found, due in pairs:
            self.assertEqual(found, due)

    def test_contents(self):
        self.check(CONTENTS)

    def test_grid(self):
        self.check(GRID)

    def test_a_wrong_session_is_seen(self):
        self.assertEqual([found == due for found, due in run_session(WRONG)], [False, False, False])


if __name__ == "__main__":
    unittest.main()
