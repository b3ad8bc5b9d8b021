"""The refusals: their bases, what they are handed and bear [2, interface]."""

import unittest

from usewarden import errors
from usewarden.errors import Breach, NoFit, NoRule, NoText, TooGreat, UseError

OF_A_TEXT = (NoRule, NoText, NoFit, TooGreat)


class Bases(unittest.TestCase):
    def test_any_refusal_is_a_value_error(self):
        self.assertEqual(UseError.__bases__, (ValueError,))

    def test_each_refusal_stands_under_use_error_alone(self):
        for refusal in (*OF_A_TEXT, Breach):
            self.assertEqual(refusal.__bases__, (UseError,))

    def test_none_stands_under_another(self):
        for one in (*OF_A_TEXT, Breach):
            for other in (*OF_A_TEXT, Breach):
                self.assertEqual(issubclass(one, other), one is other)

    def test_names(self):
        names = ["UseError", "NoRule", "NoText", "NoFit", "TooGreat", "Breach"]
        self.assertEqual([getattr(errors, name).__name__ for name in names], names)


class Handed(unittest.TestCase):
    def test_a_text(self):
        for refusal in (UseError, *OF_A_TEXT):
            self.assertEqual(str(refusal("why so")), "why so")
            self.assertEqual(refusal("why so").args, ("why so",))

    def test_raised_and_taken(self):
        for refusal in OF_A_TEXT:
            for taken in (refusal, UseError, ValueError):
                with self.assertRaises(taken):
                    raise refusal("why so")


class Fields(unittest.TestCase):
    def test_in_their_order(self):
        breach = Breach("door", 3, [0, 2], ["1.open", "2.read"], [(0, 0, "open", 0), (1, 0, 2)])
        self.assertEqual(breach.rule, "door")
        self.assertEqual(breach.line, 3)
        self.assertEqual(breach.handles, [0, 2])
        self.assertEqual(breach.row, ["1.open", "2.read"])
        self.assertEqual(breach.log, [(0, 0, "open", 0), (1, 0, 2)])

    def test_by_name(self):
        breach = Breach(log=[], row=["end"], handles=[5], line=0, rule="a")
        fields = (breach.rule, breach.line, breach.handles, breach.row, breach.log)
        self.assertEqual(fields, ("a", 0, [5], ["end"], []))

    def test_each_object_has_its_own(self):
        one = Breach("a", 1, [1], ["a"], [])
        other = Breach("b", 2, [2], ["b"], [])
        self.assertEqual((one.rule, one.line, one.handles, one.row), ("a", 1, [1], ["a"]))
        self.assertEqual((other.rule, other.line, other.handles, other.row), ("b", 2, [2], ["b"]))

    def test_raised_and_taken(self):
        with self.assertRaises(UseError) as taken:
            raise Breach("a", 1, [1], ["a"], [])
        self.assertEqual(taken.exception.rule, "a")
        self.assertIsInstance(str(taken.exception), str)

    def test_its_lists_are_the_asker_s_own(self):
        handles, row, log = [0], ["open"], [(0, 0, "open", 0)]
        breach = Breach("a", 1, handles, row, log)
        handles.append(1)
        row.append("x")
        log.append(())
        self.assertEqual((breach.handles, breach.row, breach.log), ([0], ["open"], [(0, 0, "open", 0)]))
        breach.handles.append(7)
        breach.row.clear()
        breach.log.clear()
        self.assertEqual((handles, row, log), ([0, 1], ["open", "x"], [(0, 0, "open", 0), ()]))
        same = ["a"]
        self.assertIsNot(Breach("a", 1, same, same, same).handles, same)
        both = Breach("a", 1, same, same, same)
        self.assertIsNot(both.row, both.log)

    def test_what_it_bears_besides_holds_no_list(self):
        breach = Breach("a", 1, [0], ["a"], [])
        self.assertEqual([part for part in breach.args if isinstance(part, list)], [])


if __name__ == "__main__":
    unittest.main()
