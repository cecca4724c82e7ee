"""Promises [46] to [61] on many pages, compared with these points written out."""

import random
import unittest

from gridlanes.own import own_widths
from gridlanes.rows import areas, first_baseline, own_height, shims
from tests import laid, literal_pages
from tests.random_pages import random_page
from tests.support import raised


class RandomPagesTest(unittest.TestCase):

    def check_page(self, page, width, height):
        for call, literal, given in (
                (own_widths, literal_pages.literal_own_widths, (page,)),
                (own_height, literal_pages.literal_own_height, (page, width)),
                (shims, literal_pages.literal_shims, (page, width, height)),
                (areas, literal_pages.literal_areas, (page, width, height)),
                (first_baseline, literal_pages.literal_first_baseline, (page, width, height)),
        ):
            self.assertEqual(repr(call(*given)), repr(literal(*given)), call.__name__)
        due = literal_pages.everything(literal_pages.laid_out(page, width, height))
        self.assertEqual(repr(laid.laid_out(page, width, height)), repr(due))

    def check_pages(self, seed, many, depth):
        rng = random.Random(seed)
        for _ in range(many):
            page = random_page(rng, depth)
            width, height = rng.choice((0, 30, 100, (201, 2))), rng.choice((None, None, 0, 60, (155, 2)))
            if raised(literal_pages.laid_out, page, width, height) is None:
                self.check_page(page, width, height)

    def test_pages_alone(self):
        self.check_pages(460, 200, 0)

    def test_pages_in_pages(self):
        self.check_pages(461, 120, 1)

    def test_pages_in_pages_in_pages(self):
        self.check_pages(462, 40, 2)


if __name__ == "__main__":
    unittest.main()
