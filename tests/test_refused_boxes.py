"""What the functions of BOXES refuse, and which error comes first."""

import unittest

from allitreaches.boxes import box_text, clash, grown, hull, moved, read_box, volume, where
from allitreaches.errors import BadBox, BadBoxes, BadCorner, BadPoint
from tests.values import assert_refused, strange
from tests.wrong import CUBE, ZERO, bent_boxes, bent_corners, bent_points


class BadBoxIsTold(unittest.TestCase):
    def test_in_each_place(self):
        for bent in bent_boxes():
            before = repr(bent)
            assert_refused(self, BadBox, bent, box_text, bent)
            assert_refused(self, BadBox, bent, volume, bent)
            assert_refused(self, BadBox, bent, moved, bent, (0, 0, 0))
            assert_refused(self, BadBox, bent, grown, bent, CUBE)
            assert_refused(self, BadBox, bent, grown, CUBE, bent)
            assert_refused(self, BadBox, bent, where, bent, ZERO)
            assert_refused(self, BadBox, bent, clash, bent, CUBE)
            assert_refused(self, BadBox, bent, clash, CUBE, bent)
            self.assertEqual(repr(bent), before)

    def test_of_texts(self):
        for value in strange() + [CUBE, list(CUBE), ["0..1 0..1 0..1"], ("0..1",) * 3, ["0..1"] * 3, b"0..1 0..1 0..1"]:
            assert_refused(self, BadBox, value, read_box, value)


class OthersAreTold(unittest.TestCase):
    def test_bad_corner(self):
        for bent in bent_corners():
            assert_refused(self, BadCorner, bent, moved, CUBE, bent)

    def test_bad_point(self):
        for bent in bent_points():
            assert_refused(self, BadPoint, bent, where, CUBE, bent)

    def test_bad_boxes(self):
        for bent in strange() + [CUBE, [CUBE], {CUBE: CUBE}, ((CUBE,),), (CUBE, [CUBE]), "0..1 0..1 0..1", (CUBE, ())]:
            assert_refused(self, BadBoxes, bent, hull, bent)
        for bent in bent_boxes():
            for boxes in ((bent,), (bent, CUBE), (CUBE, bent), (CUBE, bent, CUBE)):
                assert_refused(self, BadBoxes, boxes, hull, boxes)


class TheFirstIsTold(unittest.TestCase):
    def test_in_the_sequence_of_the_parameters(self):
        one, other = (1, 0, 0, 1, 0, 1), (0, 1, 0, 1, True, 2)
        assert_refused(self, BadBox, one, moved, one, None)
        assert_refused(self, BadBox, one, where, one, None)
        for look in (grown, clash):
            assert_refused(self, BadBox, one, look, one, other)
            assert_refused(self, BadBox, other, look, other, one)

    def test_by_name_in_whatever_sequence(self):
        one, other = (1, 0, 0, 1, 0, 1), (0, 1, 0, 1, True, 2)
        assert_refused(self, BadBox, one, moved, corner=None, box=one)
        assert_refused(self, BadBox, one, where, point=None, box=one)
        assert_refused(self, BadBox, one, grown, by=other, box=one)
        assert_refused(self, BadBox, one, clash, other=other, one=one)

    def test_names_of_all_parameters(self):
        self.assertEqual(box_text(box=CUBE), "0..1 0..1 0..1")
        self.assertEqual(read_box(text="0..1 0..1 0..1"), CUBE)
        self.assertEqual(moved(corner=(1, 2, 3), box=CUBE), (1, 2, 2, 3, 3, 4))
        self.assertEqual(grown(by=(0, 1, 0, 1, 0, 5), box=CUBE), (-1, 1, -1, 1, -5, 1))
        self.assertEqual(where(point=ZERO, box=CUBE), 0)
        self.assertIs(clash(other=CUBE, one=CUBE), True)
        self.assertEqual(hull(boxes=(CUBE,)), CUBE)
        self.assertEqual(volume(box=CUBE), 1)


if __name__ == "__main__":
    unittest.main()
