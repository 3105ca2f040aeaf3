import copy
import inspect
import pickle
import unittest

from passyards import errors

# Point [19]: under each built-in class, its errors, each with the value in its brackets.
LISTED = {
    ValueError: {"OtherTrains": None, "BadText": "text", "BadLine": "number", "Known": "train"},
    LookupError: {"NoTrain": "train", "NoPlace": "place", "NoNumber": "number", "NoOperation": "many"},
    RuntimeError: {"Blocked": "pair", "Barred": "block", "Crossed": "pair", "Denied": "place", "Inside": "train"},
    OverflowError: {"TooMany": "many", "Full": "place"},
}
VALUES = {"text": "T2 Y02", "pair": (4, "right")}


def listed():
    """Each error class with the built-in class over it and the name of its value."""
    return [(getattr(errors, name), base, value)
            for base, names in LISTED.items() for name, value in names.items()]


def listed_with_value():
    """Each error class that has a value, with the name of it and an example."""
    return [(made, name, VALUES.get(name, 7)) for made, _, name in listed() if name is not None]


class Classes(unittest.TestCase):
    def test_each_is_directly_under_its_builtin_class_alone(self):
        for made, base, _ in listed():
            with self.subTest(made=made):
                self.assertEqual(made.__bases__, (base,))

    def test_each_is_defined_in_this_file_and_no_other_is(self):
        own = [made for _, made in inspect.getmembers(errors, inspect.isclass)]
        self.assertEqual({made.__module__ for made in own}, {"passyards.errors"})
        self.assertEqual({made.__name__ for made in own}, {made.__name__ for made, _, _ in listed()})

    def test_each_is_caught_by_its_builtin_class(self):
        for made, base, name in listed():
            with self.subTest(made=made), self.assertRaises(base):
                raise made() if name is None else made(VALUES.get(name, 7))


class Values(unittest.TestCase):
    def test_by_position(self):
        for made, name, value in listed_with_value():
            with self.subTest(made=made):
                self.assertEqual(getattr(made(value), name), value)
                self.assertEqual(vars(made(value)), {name: value})

    def test_by_name(self):
        for made, name, value in listed_with_value():
            with self.subTest(made=made):
                self.assertEqual(getattr(made(**{name: value}), name), value)

    def test_one_value_each(self):
        for made, name, value in listed_with_value():
            with self.subTest(made=made):
                self.assertRaises(TypeError, made)
                self.assertRaises(TypeError, made, value, value)
                self.assertRaises(TypeError, made, **{"other_" + name: value})

    def test_no_value(self):
        self.assertEqual(vars(errors.OtherTrains()), {})

    def test_any_number_is_kept(self):
        for number in (0, -1, 10 ** 9, 10 ** 5000):
            for made, name, value in listed_with_value():
                if value == 7:
                    with self.subTest(made=made):
                        # The text must not need the digits: Python refuses to write out so many.
                        self.assertIsInstance(str(made(number)), str)
                        self.assertEqual(getattr(made(number), name), number)

    def test_values_of_two_objects_are_apart(self):
        one, other = errors.NoTrain(1), errors.NoTrain(2)
        self.assertEqual((one.train, other.train), (1, 2))

    def test_a_pair_that_is_given_as_a_list_is_kept_as_a_tuple(self):
        for made in (errors.Blocked, errors.Crossed):
            pair = [2, 3]
            error = made(pair)
            pair.append(4)
            self.assertEqual(error.pair, (2, 3))
            self.assertEqual(pair, [2, 3, 4])

    def test_copies_keep_the_value(self):
        for made, name, value in listed_with_value():
            for error in (made(value), made(**{name: value})):
                with self.subTest(made=made):
                    self.assertEqual(getattr(copy.copy(error), name), value)
                    self.assertEqual(getattr(pickle.loads(pickle.dumps(error)), name), value)


if __name__ == "__main__":
    unittest.main()
