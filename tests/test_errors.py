import pickle
import unittest

from pacehall import errors

PLAIN = [
    errors.NoPlace, errors.NoStep, errors.NoCells, errors.NoView, errors.NoMove, errors.NoCount,
    errors.NoPair, errors.NoMost, errors.NoOrder, errors.NoDeed, errors.NoRow,
]

FIELDS = [
    (errors.TooMany, ["number"]),
    (errors.NoShape, ["place", "axis"]),
    (errors.Twice, ["one", "other"]),
    (errors.NoName, ["name"]),
    (errors.Known, ["name"]),
]

ALL = PLAIN + [kind for kind, fields in FIELDS]

GIVEN = {
    "number": 10 ** 72, "place": (0, 1), "axis": 1, "one": (0, 0), "other": (1, 2), "name": "hall",
}


class Unwritable:

    def __repr__(self):
        raise RuntimeError("can't be written out")

    __str__ = __repr__


class ErrorsTest(unittest.TestCase):

    def test_there_are_sixteen(self):
        self.assertEqual(16, len(set(ALL)))

    def test_names(self):
        names = {kind.__name__ for kind in ALL}
        self.assertEqual(names, {
            "NoPlace", "NoStep", "NoCells", "NoView", "NoMove", "NoCount", "NoPair", "NoMost", "NoOrder",
            "NoDeed", "NoRow", "TooMany", "NoShape", "Twice", "NoName", "Known",
        })

    def test_pace_error_stands_right_under_value_error(self):
        self.assertEqual((ValueError,), errors.PaceError.__bases__)

    def test_each_stands_right_under_pace_error(self):
        for kind in ALL:
            with self.subTest(kind=kind):
                self.assertEqual((errors.PaceError,), kind.__bases__)

    def test_none_stands_under_another_one(self):
        for kind in ALL:
            for other in ALL:
                if kind is not other:
                    self.assertFalse(issubclass(kind, other), (kind, other))

    def test_made_with_a_text(self):
        for kind in PLAIN + [errors.PaceError]:
            with self.subTest(kind=kind):
                self.assertEqual("some words", str(kind("some words")))

    def test_fields(self):
        for kind, fields in FIELDS:
            with self.subTest(kind=kind):
                made = kind(*[GIVEN[field] for field in fields])
                self.assertIsInstance(made, errors.PaceError)
                for field in fields:
                    self.assertEqual(GIVEN[field], getattr(made, field))

    def test_fields_by_their_names(self):
        for kind, fields in FIELDS:
            with self.subTest(kind=kind):
                made = kind(**{field: GIVEN[field] for field in fields})
                self.assertEqual({field: GIVEN[field] for field in fields}, vars(made))

    def test_raised_and_taken(self):
        for kind, fields in FIELDS:
            with self.subTest(kind=kind), self.assertRaises(ValueError) as taken:
                raise kind(*[GIVEN[field] for field in fields])
            self.assertIs(kind, type(taken.exception))

    def test_a_name_may_be_whatever_it_is(self):
        for name in [None, True, 10 ** 5000, ["a"], {}, Unwritable(), ""]:
            for kind in [errors.NoName, errors.Known]:
                self.assertIs(name, kind(name).name)

    def test_kept_by_copying(self):
        for kind, fields in FIELDS:
            with self.subTest(kind=kind):
                copy = pickle.loads(pickle.dumps(kind(*[GIVEN[field] for field in fields])))
                self.assertIs(kind, type(copy))
                self.assertEqual({field: GIVEN[field] for field in fields}, vars(copy))


if __name__ == "__main__":
    unittest.main()
