import unittest

from havenorhunt.errors import BadSentence, BadText, GroundError, NoCatch, NotHere


class TestErrors(unittest.TestCase):
    def test_base_classes(self):
        self.assertEqual(GroundError.__bases__, (ValueError,))
        for kind in (BadText, BadSentence, NoCatch, NotHere):
            with self.subTest(kind=kind.__name__):
                self.assertEqual(kind.__bases__, (GroundError,))

    def test_raised_without_arguments(self):
        for kind in (BadText, BadSentence, NoCatch):
            with self.subTest(kind=kind.__name__):
                with self.assertRaises(GroundError) as caught:
                    raise kind()
                self.assertIs(caught.exception.__class__, kind)

    def test_not_here_tells_what(self):
        self.assertIn("__init__", NotHere.__dict__)
        self.assertEqual(NotHere("node").what, "node")
        self.assertEqual(NotHere("edge").what, "edge")
        self.assertEqual(NotHere(what="edge").what, "edge")
        with self.assertRaises(TypeError):
            NotHere()


if __name__ == "__main__":
    unittest.main()
