"""Cases and first refusals: points 2, 3, 56 and 57."""

import random
import unittest

from latelink.cases import case_of, is_case
from latelink.errors import BadOperation, BadSize, Illegal
from latelink.losses import is_loss_certificate
from latelink.modes import first_refusal
from latelink.repairs import repairs
from latelink.replay import replay
from tests.helpers import LinkCase
from tests.model import MODES, Model, after, legal_logs, signed
from tests.search import shortest_logs
from tests.trees import is_checked, text_of

KEYS = ["size", "log", "dump", "gaps", "sound", "modes", "repair", "loss", "tree"]
LOG = [-1, -2, 1, -3, 2, 3]
LOSS = [-2, -3, 2, -1, -4]
# Two gaps are lost after this log.
LOSSES = [-2, -3, 2, -1, -4, -7, -8, 7, -6, -9]


def log_text(log):
    return " ".join(("+" if operation > 0 else "-") + str(abs(operation)) for operation in log)


def certificates(size, log):
    """Points 16 and 19: the certificates of all gaps."""
    model, rights, lefts = Model(size), [-1] * (size + 1), [-1] * (size + 1)
    for index, operation in enumerate(log):
        x = abs(operation)
        rights[model.left[x]] = index
        lefts[model.right[x] - 1] = index
        model.apply(operation)
    return list(zip(model.states(), rights, lefts))


def losses(size, log):
    """Point 27: all certificates of loss."""
    model, parted, found = Model(size), {}, []
    for index, operation in enumerate(log):
        before = model.states()
        model.apply(operation)
        for gap, (was, now) in enumerate(zip(before, model.states())):
            if was == "joined" and now in ("left", "right"):
                parted[gap] = index
            elif was != now == "lost":
                found.append((gap, parted[gap], index))
    return sorted(found)


def first_refusals(size, log):
    """Point 57, mode by mode."""
    model, found = Model(size), {mode: None for mode in MODES}
    for index, operation in enumerate(log):
        for mode in model.refused_by(operation):
            if found[mode] is None:
                found[mode] = index
        model.apply(operation)
    return [found[mode] for mode in MODES]


def case_by_definition(size, log):
    """Point 56, but for the repair."""
    model, lost = after(size, log), losses(size, log)
    return {"size": size, "log": log_text(log), "dump": model.dump(), "gaps": certificates(size, log),
            "sound": model.is_sound(), "modes": first_refusals(size, log), "loss": lost[0] if lost else None,
            "tree": text_of(model) if is_checked(model) else None}


def some_logs(size, length, many):
    dice = random.Random(size * 100 + length)
    return [signed([dice.randint(1, size) for _ in range(length)]) for _ in range(many)]


class CaseTest(LinkCase):
    def assert_case(self, size, log):
        case = self.told(case_of, size, log)
        self.assertEqual(list(case), KEYS)
        rest = {key: value for key, value in case.items() if key != "repair"}
        self.assertEqual(rest, case_by_definition(size, log))
        self.assertEqual({type(member) for member in case["gaps"]}, {tuple})
        self.assertIs(type(case["gaps"]), list)
        self.assertIn(type(case["loss"]), (tuple, type(None)))
        self.assertIs(type(case["sound"]), bool)
        self.assertIs(self.told(is_case, case), True)
        return case

    def test_example(self):
        case = case_of(3, LOG)
        self.assertEqual([case["sound"], case["modes"], case["repair"], case["loss"], case["tree"], case["gaps"][0]],
                         [False, [None, None, 3, 2], "-1 +1", None, None, ("right", 3, -1)])

    def test_every_short_log(self):
        for size, longest in ((0, 0), (1, 4), (2, 5), (3, 4)):
            for log in legal_logs(size, longest):
                case = self.assert_case(size, log)
                shortest = shortest_logs(size, case["dump"])
                self.assertEqual(case["repair"], log_text(shortest[0]))

    def test_longer_logs(self):
        lost = 0
        for size, length, many in ((3, 9, 60), (4, 8, 60), (5, 40, 60), (8, 40, 60), (60, 120, 6)):
            for log in some_logs(size, length, many):
                case = self.assert_case(size, log)
                lost += case["loss"] is not None
                self.assertIs(case["repair"] is None, case["loss"] is not None)
        self.assertGreater(lost, 10)

    def test_with_a_lost_gap(self):
        case = self.assert_case(4, LOSS)
        self.assertEqual((case["repair"], case["loss"], case["modes"]), (None, (1, 3, 4), [None, 4, 4, 2]))
        case = self.assert_case(9, LOSSES)
        self.assertEqual((case["repair"], case["loss"]), (None, (1, 3, 4)))

    def test_of_a_checked_standing_and_of_none(self):
        case = self.assert_case(3, [-1, -3, -2])
        self.assertEqual((case["tree"], case["sound"], case["modes"]), ("((*)*(*))", True, [None] * 4))
        # A sound standing is not always a checked one.
        sound = [log for log in legal_logs(3, 5) if after(3, log).is_sound() and not is_checked(after(3, log))]
        for log in sound:
            case = self.assert_case(3, log)
            self.assertEqual((case["tree"], case["sound"]), (None, True))
        self.assertTrue(sound)

    def test_of_the_whole_list(self):
        for size in (0, 1, 60):
            case = self.assert_case(size, [])
            self.assertEqual((case["repair"], case["loss"], case["log"], case["tree"]), ("", None, "", "." * size))

    def test_long_logs_of_size_60(self):
        for mode in MODES:
            dice, model, log = random.Random(mode), Model(60), []
            while len(log) < 400:
                operation = dice.choice(model.legal())
                if mode not in model.refused_by(operation):
                    model.apply(operation)
                    log.append(operation)
            case = self.at_once(case_of, 60, log)
            self.assertIs(self.at_once(is_case, case), True)
            self.assertEqual(case["modes"], first_refusals(60, log))

    def test_errors(self):
        for size in (-1, 61):
            self.assert_error(BadSize(size), case_of, size, [0])
        for operation in (0, 4, -4):
            self.assert_error(BadOperation(operation, 1), case_of, 3, [-1, operation, -1])
        self.assert_error(Illegal(-1, 1), case_of, 3, [-1, -1, 0])
        # The error is due behind the place at which a gap is lost and all modes have refused.
        self.assert_error(BadOperation(5, 5), case_of, 4, LOSS + [5])
        self.assert_error(Illegal(1, 5), case_of, 3, LOG[:5] + [1])

    def test_each_value_is_new(self):
        for log in (LOG, []):
            case = case_of(3, log)
            case["gaps"].append(1)
            case["modes"].append(1)
            case["odd"] = 1
            self.assertEqual({key: value for key, value in case_of(3, log).items() if key != "repair"},
                             case_by_definition(3, log))


class IsCaseTest(LinkCase):
    def assert_wrong(self, case, **changes):
        self.assertIs(self.told(is_case, {**case, **changes}), False, changes)

    def cases(self):
        """Cases with and without a lost gap, of a checked standing and of none."""
        return [case_of(3, LOG), case_of(4, LOSS), case_of(3, [-1, -3, -2]), case_of(3, []), case_of(0, []),
                case_of(3, [-1, -2, -3]), case_of(9, LOSSES), case_of(60, [-60, -59, 60])]

    def test_any_order_of_keys(self):
        for case in self.cases():
            self.assertIs(is_case(case), True)
            self.assertIs(is_case(dict(reversed(list(case.items())))), True)
            self.assertIs(is_case(dict(sorted(case.items()))), True)

    def test_a_key_missing_or_one_more(self):
        for case in self.cases():
            for missing in KEYS:
                fewer = {key: value for key, value in case.items() if key != missing}
                self.assertIs(self.told(is_case, fewer), False)
                self.assertIs(is_case({**fewer, missing.upper(): case[missing]}), False)
                self.assertIs(is_case({**fewer, 0: case[missing]}), False)
            for further in ("odd", "", 0, None, (1, 2)):
                self.assertIs(is_case({**case, further: None}), False)
        self.assertIs(is_case({}), False)

    def test_each_value_wrong(self):
        whole, gaps = case_of(3, []), case_of(3, LOG)["gaps"]
        for case in self.cases():
            self.assert_wrong(case, size=case["size"] + 1)
            self.assert_wrong(case, size=case["size"] - 1)
            self.assert_wrong(case, dump=case["dump"] + " ")
            self.assert_wrong(case, dump="")
            self.assert_wrong(case, dump=case_of(case["size"], [-1] if case["size"] else [])["dump"] + "1")
            self.assert_wrong(case, sound=not case["sound"])
            self.assert_wrong(case, tree="odd")
            self.assert_wrong(case, tree=None if case["tree"] is not None else whole["tree"])
            self.assert_wrong(case, modes=case["modes"][:3])
            self.assert_wrong(case, modes=case["modes"] + [None])
            self.assert_wrong(case, modes=[])
            for index in range(4):
                modes = list(case["modes"])
                modes[index] = 0 if modes[index] is None else None
                self.assert_wrong(case, modes=modes)
                modes[index] = 7
                self.assert_wrong(case, modes=modes)
            for wrong in (case["gaps"][1:], case["gaps"] + [("joined", -1, -1)], []):
                self.assert_wrong(case, gaps=wrong)
            for index, (state, right, left) in enumerate(case["gaps"]):
                for triple in (("odd", right, left), (state, right + 1, left), (state, right, left - 1)):
                    self.assert_wrong(case, gaps=case["gaps"][:index] + [triple] + case["gaps"][index + 1:])
        self.assert_wrong(whole, gaps=gaps)
        self.assert_wrong(case_of(3, LOG), gaps=gaps[::-1])

    def test_another_log(self):
        case = case_of(3, LOG)
        # Another log may lead to the same standing, but the case tells of this one.
        self.assert_wrong(case, log="-1 -2 +1 -3 +3 +2")
        self.assert_wrong(case, log="")
        self.assert_wrong(case, log=case["log"] + " -1 +1")
        self.assertIs(is_case({**case_of(3, [-1, 1]), "log": "-2 +2"}), False)

    def test_a_log_that_cannot_be_read_is_not_legal_or_does_not_fit_the_size(self):
        for case in self.cases():
            for text in ("odd", " ", "-1 ", "1", "-0", "+1", "-1 -1", "-61", "-999999999", "-1 -2 -1", "-1  +1", "-01"):
                self.assert_wrong(case, log=text)
        self.assert_wrong(case_of(3, LOG), size=2)
        self.assert_wrong(case_of(60, [-60]), size=59)

    def test_sizes_that_are_none(self):
        for case in self.cases():
            for size in (-1, 61, 10 ** 20, -10 ** 20):
                self.assert_wrong(case, size=size)

    def test_any_least_repair(self):
        case = case_of(3, [-1, -2, -3])
        logs = repairs(replay(3, [-1, -2, -3]))
        self.assertEqual(len(logs), 5)
        for log in logs:
            self.assertIs(is_case({**case, "repair": log_text(log)}), True)
        for text in ("+1 +3 +2", "+3 +2", "", "+3 +2 +1 -1 +1", "odd", "+3 +2 +1 ", "3 2 1", "+1", "-1", "+1 +2 +4",
                     "+3 +2 +2", "+999999999", " "):
            self.assert_wrong(case, repair=text)
        self.assert_wrong(case, repair=None)
        for size, length, many in ((3, 7, 40), (4, 9, 60), (6, 10, 30)):
            for log in some_logs(size, length, many):
                case = case_of(size, log)
                if case["loss"] is None:
                    for repair in repairs(replay(size, log), most=6):
                        self.assertIs(is_case({**case, "repair": log_text(repair)}), True)
                        self.assert_wrong(case, repair=log_text(repair + [-1, 1]))
                        self.assert_wrong(case, repair=log_text([1]) if not repair else log_text(repair[1:]))
                    self.assert_wrong(case, repair=None)
                else:
                    self.assert_wrong(case, repair="")

    def test_any_certificate_of_loss(self):
        case = case_of(9, LOSSES)
        lost = losses(9, LOSSES)
        self.assertEqual([gap for gap, _, _ in lost], [1, 6])
        for certificate in lost:
            self.assertIs(is_loss_certificate(9, LOSSES, certificate), True)
            self.assertIs(is_case({**case, "loss": certificate}), True)
        for wrong in ((1, 3, 5), (1, 2, 4), (0, 3, 4), (6, 3, 4), (1, 8, 9), (2, 3, 4), None):
            self.assert_wrong(case, loss=wrong)
        self.assert_wrong(case_of(4, LOSS), loss=None)
        self.assert_wrong(case_of(3, LOG), loss=(1, 3, 4))
        self.assert_wrong(case_of(3, []), loss=(0, 0, 0))

    def test_a_repair_and_a_loss_never_stand_together(self):
        self.assert_wrong(case_of(4, LOSS), repair="-1 +1")
        self.assert_wrong(case_of(4, LOSS), repair="")
        self.assert_wrong(case_of(4, LOSS), repair="", loss=None)
        self.assert_wrong(case_of(3, LOG), repair=None, loss=None)
        self.assert_wrong(case_of(3, LOG), repair=None, loss=(1, 3, 4))


class FirstRefusalTest(LinkCase):
    """Point 57."""

    def test_the_four_modes_one_by_one(self):
        logs = [(size, log) for size, longest in ((1, 4), (2, 6), (3, 6)) for log in legal_logs(size, longest)]
        logs += [(4, LOSS), (9, LOSSES)] + [(size, log) for size in (4, 5, 7) for log in some_logs(size, 14, 100)]
        for size, log in logs:
            right = first_refusals(size, log)
            for mode, index in zip(MODES, right):
                self.assert_told(index, first_refusal, size, log, mode=mode)
            self.assertEqual(case_of(size, log)["modes"], right)
            # A stricter mode never refuses later.
            places = [len(log) if index is None else index for index in right]
            self.assertEqual(places, sorted(places, reverse=True))


if __name__ == "__main__":
    unittest.main()
