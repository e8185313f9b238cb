import inspect
import unittest

import kernelstack.errors as errors

FAULTS = ("TextError", "TermError", "NameFault", "KindFault", "DataFault", "HoleFault", "StepFault", "FileFault",
          "WorkFault")


class TestErrors(unittest.TestCase):

    def test_the_base_is_a_value_error(self):
        self.assertEqual(errors.KernelError.__bases__, (ValueError,))

    def test_all_stand_under_the_base(self):
        for name in FAULTS:
            self.assertTrue(issubclass(getattr(errors, name), errors.KernelError), name)
            self.assertTrue(issubclass(getattr(errors, name), ValueError), name)

    def test_none_stands_under_another(self):
        for name in FAULTS:
            for other in FAULTS:
                if name != other:
                    self.assertFalse(issubclass(getattr(errors, name), getattr(errors, other)), (name, other))

    def test_each_is_defined_in_this_file(self):
        for name in ("KernelError",) + FAULTS:
            self.assertTrue(inspect.isclass(getattr(errors, name)), name)
            self.assertEqual(getattr(errors, name).__module__, "kernelstack.errors")
            self.assertEqual(getattr(errors, name).__name__, name)

    def test_each_is_raised_and_caught_by_its_name(self):
        for name in FAULTS:
            with self.assertRaises(errors.KernelError) as caught:
                raise getattr(errors, name)("what is wrong")
            self.assertIs(type(caught.exception), getattr(errors, name))
            self.assertEqual(str(caught.exception), "what is wrong")


if __name__ == "__main__":
    unittest.main()
