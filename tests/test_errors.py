import unittest

from everyanswer import errors
from everyanswer.errors import AnswerError
from everyanswer.lines import Unreadable
from everyanswer.values import Arises

PLAIN = ["NoPath", "NoCode", "NoAnswers", "NoAnswer", "NotAsked", "NoName", "NoMost", "NoPlace", "NoExpression",
         "Waiting", "Over", "NoBack"]
FIELDS = {"NoProgram": "path", "NoText": "line", "TooMany": "many"}


class Errors(unittest.TestCase):
    def test_base(self):
        self.assertTrue(issubclass(AnswerError, ValueError))
        self.assertIsInstance(AnswerError(), ValueError)

    def test_each_stands_directly_under_answer_error(self):
        classes = [getattr(errors, word) for word in PLAIN + list(FIELDS)] + [Unreadable, Arises]
        self.assertEqual(len(set(classes)), 17)
        for one in classes:
            self.assertEqual(one.__bases__, (AnswerError,))
            for other in classes:
                self.assertEqual(issubclass(one, other), one is other)

    def test_defined_in_errors(self):
        for word in PLAIN + list(FIELDS) + ["AnswerError"]:
            self.assertEqual(getattr(errors, word).__module__, "everyanswer.errors")

    def test_without_fields(self):
        for word in PLAIN:
            with self.assertRaises(AnswerError) as caught:
                raise getattr(errors, word)()
            self.assertIs(type(caught.exception), getattr(errors, word))
            self.assertIsInstance(str(caught.exception), str)

    def test_fields_keep_what_they_are_given(self):
        for word, field in FIELDS.items():
            for value in ((), (1, 2), -1, 0, 3000, None, True, "text", [1, [2]], {"a": 1}):
                error = getattr(errors, word)(value)
                self.assertEqual(getattr(error, field), value)
                self.assertIs(type(getattr(error, field)), type(value))
                self.assertIsInstance(error, AnswerError)


if __name__ == "__main__":
    unittest.main()
