"""Of points 25 and 26: END."""

import unittest

from heardalike import edits
from heardalike.edits import END


class Ends(unittest.TestCase):
    def test_end_is_a_number(self):
        self.assertEqual(END, -1)
        self.assertIs(type(END), int)
        self.assertIn("END", vars(edits))


if __name__ == "__main__":
    unittest.main()
