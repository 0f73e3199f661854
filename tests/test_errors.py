"""Promise 0.3: the error classes, and what they keep."""

import copy
import pickle
import unittest

from tests.things import wrong_things
from unitgrids import errors
from unitgrids.errors import GridError

FIELDS = {
    "NoUnit": (), "OtherBases": (), "NoFraction": (), "NoRoots": (), "NoScale": (),
    "BadGrid": ("part",), "NoCell": (), "NoNumbers": (), "BadScript": ("part",), "NoGrid": (),
    "NoOrder": (), "NoValues": (), "NoWay": (), "NoNumber": (), "TooMany": ("most",),
    "TooLong": ("most",), "NoParting": (), "NotSquare": (), "NoSquare": (), "NoPlacing": (),
    "NoRight": (), "BadLine": ("place",), "NoAnswer": (), "NoText": (), "NothingDone": (),
    "NoLine": (), "Unknown": ("name",),
}


class ErrorsTest(unittest.TestCase):
    def classes(self):
        return [(getattr(errors, name), fields) for name, fields in FIELDS.items()]

    def test_each_derives_directly(self):
        self.assertEqual(GridError.__bases__, (ValueError,))
        for kind, _ in self.classes():
            self.assertEqual(kind.__bases__, (GridError,), kind)
            self.assertEqual(kind.__module__, "unitgrids.errors")

    def test_there_are_no_others(self):
        there = {name for name, thing in vars(errors).items() if isinstance(thing, type)}
        self.assertEqual(there, set(FIELDS) | {"GridError"})

    def test_each_is_made_with_just_its_fields(self):
        for kind, fields in self.classes():
            error = kind(*["a"] * len(fields))
            self.assertEqual(vars(error), {field: "a" for field in fields})
            with self.assertRaises(TypeError):
                kind(*["a"] * (len(fields) + 1))
            if fields:
                with self.assertRaises(TypeError):
                    kind()

    def test_fields_are_kept_as_they_were_passed(self):
        for kind, fields in self.classes():
            if fields:
                for thing in wrong_things() + [7, -1, 10 ** 40, (0,), (1, 2)]:
                    self.assertIs(getattr(kind(thing), fields[0]), thing)

    def test_a_kept_list_is_not_changed(self):
        part = [1, [2, {"a": ()}]]
        error = errors.BadGrid(part)
        self.assertEqual(part, [1, [2, {"a": ()}]])
        self.assertIs(error.part, part)

    def test_each_can_be_raised_copied_and_told(self):
        for kind, fields in self.classes():
            with self.assertRaises(GridError) as caught:
                raise kind(*["a"] * len(fields))
            self.assertIs(type(caught.exception), kind)
            for again in (copy.copy(caught.exception), pickle.loads(pickle.dumps(caught.exception))):
                self.assertEqual((type(again), vars(again)), (kind, vars(caught.exception)))
            self.assertIsInstance(str(caught.exception), str)

    def test_each_is_equal_to_nothing_of_another_class(self):
        made = [kind(*["a"] * len(fields)) for kind, fields in self.classes()]
        for at, error in enumerate(made):
            self.assertEqual([other for other in made if other == error], [made[at]])
            self.assertFalse(any(error == thing for thing in wrong_things()))


if __name__ == "__main__":
    unittest.main()
