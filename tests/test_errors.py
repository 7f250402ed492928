import unittest

from hookhall import errors
from hookhall.errors import Barred, DeedFault, HallError, Ring

PLAIN = ("NameThere", "NoPlace", "NoPiece", "TooMany", "NoAnswer")
WITH_FIELDS = ("Ring", "Barred", "DeedFault")


class ErrorClasses(unittest.TestCase):
    def refusals(self):
        return [getattr(errors, name) for name in PLAIN + WITH_FIELDS]

    def test_hall_error_is_a_value_error(self):
        self.assertTrue(issubclass(HallError, ValueError))

    def test_each_stands_under_hall_error(self):
        for refusal in self.refusals():
            with self.subTest(refusal=refusal):
                self.assertTrue(issubclass(refusal, HallError))
                self.assertTrue(issubclass(refusal, ValueError))
                self.assertIsNot(refusal, HallError)

    def test_none_stands_under_another(self):
        for one in self.refusals():
            for other in self.refusals():
                with self.subTest(one=one, other=other):
                    self.assertEqual(issubclass(one, other), one.__name__ == other.__name__)

    def made(self):
        plain = [getattr(errors, name)("words") for name in PLAIN]
        return plain + [Ring(["a"]), Barred("a", "b"), DeedFault("a", 1)]

    def test_each_is_taken_by_its_name_and_as_hall_error(self):
        for refusal in self.made():
            for taker in (type(refusal), HallError, ValueError):
                with self.subTest(refusal=refusal, taker=taker):
                    with self.assertRaises(taker):
                        raise refusal

    def test_none_is_taken_by_another(self):
        for refusal in self.made():
            for taker in self.refusals():
                with self.subTest(refusal=refusal, taker=taker):
                    self.assertEqual(isinstance(refusal, taker), type(refusal).__name__ == taker.__name__)


class Fields(unittest.TestCase):
    def test_ring(self):
        self.assertEqual(Ring(["a", "b"]).ring, ["a", "b"])
        self.assertEqual(Ring(["a"]).ring, ["a"])

    def test_ring_is_a_list_of_its_own(self):
        handed = ["a", "b"]
        refusal = Ring(handed)
        handed.append("c")
        self.assertEqual(refusal.ring, ["a", "b"])
        refusal.ring.append("d")
        self.assertEqual(handed, ["a", "b", "c"])

    def test_ring_from_a_tuple_is_a_list(self):
        self.assertEqual(Ring(("a", "b")).ring, ["a", "b"])

    def test_barred(self):
        refusal = Barred("a", "b")
        self.assertEqual((refusal.one, refusal.other), ("a", "b"))

    def test_deed_fault(self):
        refusal = DeedFault("a", -7)
        self.assertEqual((refusal.piece, refusal.code), ("a", -7))

    def test_deed_fault_with_a_number_too_long_to_write(self):
        # 4300 digits is where Python stops writing numbers out.
        code = 10 ** 5000
        refusal = DeedFault("a", code)
        self.assertEqual(refusal.code, code)
        self.assertIsInstance(str(refusal), str)

    def test_two_of_a_class_have_their_own(self):
        one = Barred("a", "b")
        other = Barred("c", "d")
        self.assertEqual((one.one, one.other, other.one, other.other), ("a", "b", "c", "d"))


if __name__ == "__main__":
    unittest.main()
