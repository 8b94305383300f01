"""The errors: their names, base classes and attributes."""

import unittest

from latelink import errors

OF_LOGS = {
    "BadOperation": ["operation", "index"],
    "Illegal": ["operation", "index"],
    "Refused": ["operation", "index", "refusing"],
}
OTHERS = {
    "BadSize": ["size"], "BadNode": ["node"], "BadGap": ["gap"], "BadMode": ["name"], "BadText": ["place"],
    "BadDump": ["part"], "BadRange": ["low", "high"], "BadCount": ["count"], "BadWeights": ["count"],
    "BadRemoval": ["index"], "BadOrder": ["index"], "BadRank": ["rank"], "BadPlace": ["place"],
    "BadIndex": ["index"], "BadProgram": ["session", "index"], "BadSchedule": ["index"], "BadTurn": ["turn"],
    "BadFact": ["index"], "BadCapacity": ["capacity"], "TooMany": ["limit"], "SizeMismatch": ["first", "second"],
    "Unknown": ["standing"], "NotRepairable": ["gap"], "NotLost": ["size"], "NotOnce": ["index"],
    "NotChecked": ["standing"], "Barred": ["node"], "Unsafe": ["schedule"], "Stuck": ["schedule"],
    "NoFit": ["size"], "Full": ["capacity"], "Stale": ["index"], "NothingToUndo": [], "NothingToRedo": [],
}
VALUES = {"name": "odd", "turn": "odd", "refusing": "saving", "standing": "1 | 0 | none", "schedule": [0, 1]}


class ErrorsTest(unittest.TestCase):
    def test_base_classes(self):
        self.assertEqual(errors.LinkError.__bases__, (ValueError,))
        self.assertEqual(errors.LogError.__bases__, (errors.LinkError,))
        for name in OF_LOGS:
            self.assertEqual(getattr(errors, name).__bases__, (errors.LogError,), name)
        for name in OTHERS:
            self.assertEqual(getattr(errors, name).__bases__, (errors.LinkError,), name)

    def test_attributes_in_their_order(self):
        for name, attributes in {**OF_LOGS, **OTHERS}.items():
            values = [VALUES.get(attribute, number) for number, attribute in enumerate(attributes, 7)]
            error = getattr(errors, name)(*values)
            self.assertEqual(list(vars(error).items()), list(zip(attributes, values)), name)

    def test_no_other_errors(self):
        known = {name for name, value in vars(errors).items() if isinstance(value, type)}
        self.assertEqual(known, {"LinkError", "LogError", *OF_LOGS, *OTHERS})

    def test_a_schedule_is_copied(self):
        for made in (errors.Unsafe, errors.Stuck):
            schedule = [0, 1]
            error = made(schedule)
            schedule.append(2)
            self.assertEqual(error.schedule, [0, 1])


if __name__ == "__main__":
    unittest.main()
