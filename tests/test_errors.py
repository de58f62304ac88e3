"""The errors: what each is made of, its fields, and what it stands under."""

import unittest

from allsorts import errors
from allsorts.errors import BadPart, BadText, BadValue, Gone, Nested, NoFit, Nothing, TooGreat

BASES = {
    BadValue: ValueError,
    BadText: BadValue,
    NoFit: LookupError,
    TooGreat: OverflowError,
    Nothing: IndexError,
    Nested: RuntimeError,
    BadPart: TypeError,
    Gone: Exception,
}


class ErrorsTest(unittest.TestCase):
    def test_each_has_its_base(self):
        for error, base in BASES.items():
            self.assertEqual(error.__bases__, (base,))

    def test_none_stands_under_another_but_bad_text(self):
        for one in BASES:
            for other in BASES:
                under = one is other or (one, other) == (BadText, BadValue)
                self.assertEqual(issubclass(one, other), under, (one, other))

    def test_each_is_defined_in_its_file(self):
        for error in BASES:
            self.assertEqual(error.__module__, "allsorts.errors")
            self.assertIs(getattr(errors, error.__name__), error)

    def test_bad_value(self):
        self.assertEqual(BadValue("term").what, "term")
        self.assertEqual(BadValue(what="sayings").what, "sayings")
        with self.assertRaises(ValueError) as caught:
            raise BadValue("thing")
        self.assertEqual(vars(caught.exception), {"what": "thing"})

    def test_bad_text(self):
        self.assertEqual(vars(BadText(7)), {"place": 7, "what": "text"})
        self.assertEqual(vars(BadText(place=0)), {"place": 0, "what": "text"})
        with self.assertRaises(BadValue) as caught:
            raise BadText(3)
        self.assertEqual((caught.exception.place, caught.exception.what), (3, "text"))

    def test_no_fit(self):
        self.assertEqual(vars(NoFit("name", "x")), {"what": "name", "name": "x"})
        self.assertEqual(vars(NoFit(what="call", name="f")), {"what": "call", "name": "f"})

    def test_too_great_and_nothing(self):
        self.assertEqual(vars(TooGreat("terms")), {"about": "terms"})
        self.assertEqual(vars(TooGreat(about="nodes")), {"about": "nodes"})
        self.assertEqual(vars(Nothing("pop")), {"about": "pop"})
        self.assertEqual(vars(Nothing(about="least")), {"about": "least"})

    def test_nested_is_made_of_nothing(self):
        self.assertEqual(vars(Nested()), {})
        with self.assertRaises(TypeError):
            Nested("say")

    def test_bad_part(self):
        self.assertEqual(vars(BadPart("sums")), {"part": "sums"})
        self.assertEqual(vars(BadPart(part="ties")), {"part": "ties"})

    def test_gone_is_made_of_one_thing_or_of_none(self):
        self.assertEqual(vars(Gone()), {"why": ""})
        thing = []
        self.assertIs(Gone(thing).why, thing)
        self.assertIs(Gone(why=thing).why, thing)
        self.assertIsNone(Gone(None).why)

    def test_what_lacks_is_refused(self):
        for error in (BadValue, BadText, TooGreat, Nothing, BadPart):
            with self.assertRaises(TypeError):
                error()
        with self.assertRaises(TypeError):
            NoFit("name")
        with self.assertRaises(TypeError):
            Gone(1, 2)


if __name__ == "__main__":
    unittest.main()
