"""What the document promises over the whole program: points 1 to 3, and the names of the interface."""

import inspect
import unittest
from importlib import import_module
from itertools import islice

from latelink.atlas import Atlas
from latelink.debts import debt_of, is_repairable
from latelink.desk import Desk
from latelink.errors import (
    BadFact, BadGap, BadMode, BadOperation, BadSize, BadText, Illegal, LinkError, NotLost, Refused, SizeMismatch, Stuck,
    TooMany, Unsafe,
)
from latelink.forest import Forest
from latelink.gaps import gap_states
from latelink.links import Links
from latelink.losses import is_loss_certificate, loss_certificate
from latelink.repairs import first_repair, is_least_repair
from latelink.replay import play, replay
from latelink.verdicts import Verdict, gap_certificate
from latelink.writers import decided_by
from tests.helpers import LinkCase, frozen
from tests.model import MODES, after, legal_logs, signed

# For each module of the interface its functions, as they stand there.
FUNCTIONS = {
    "ops": """format_log(log) parse_log(text) first_illegal(size,log) strikes(size,log) squeeze(size,log)
        mirror(size,log) blocks(size,log) block_part(size,log,low,high)""",
    "replay": "replay(size,log) play(links,log) standings(size,log) mirrored(links)",
    "gaps": """gap_state(links,gap) gap_states(links) lost_gaps(links) sole_holders(links) gap_changes(links,operation)
        foreign_writes(links,operation)""",
    "writers": "writers(size,log) last_actor(size,log,gap) foreign_after(size,log,gap) decided_by(size,log,gap)",
    "verdicts": """verdict(size,log) gap_certificate(size,log,gap) is_gap_certificate(size,log,gap,value)
        first_loss(size,log)""",
    "modes": """mode_named(mode) admits(links,operation,*,mode='free') admitted(links,*,mode='free')
        replay_in(size,log,*,mode='free') first_refusal(size,log,*,mode='free')""",
    "parting": "least_parting(size,mode,other) alike(size,mode,other)",
    "debts": """is_repairable(links) due_nodes(links) debt_of(links) can_finish(links) repair_cost(links,weights)""",
    "repairs": """first_repair(links) repairs(links,*,most=20) count_repairs(links) is_repair(links,log)
        is_least_repair(links,log) repair_within(links,allowed)""",
    "losses": "loss_certificate(size,log) is_loss_certificate(size,log,value)",
    "once": "late_writes(size,log) is_complete(size,log) safe_next(size,log)",
    "returns": """is_safe_return(size,removal,order) count_returns(size,removal) first_unsafe(size,removal)
        chain_returns(count) is_chain_return(order) count_pairs(size) count_once(size)""",
    "ranks": "count_forests(size) rank(forest) forest_at(size,place) each_forest(size)",
    "distance": """kept(a,b) distance(a,b) reaches_in(a,b,many) first_plan(a,b) is_plan(a,b,log) count_plans(a,b)
        widest(size) far_pair(size)""",
    "programs": """is_stack(program) count_schedules(size,programs) weave(size,*programs,schedule)
        groups(size,programs)""",
    "schedules": "bad_schedule(size,programs) safe_table(size,programs) is_safe_table(size,programs,table)",
    "waiting": """stuck_schedule(size,programs,*,mode='checked') refused_schedule(size,programs,*,mode='checked')
        run(size,programs,*,mode='checked',turn='first')""",
    "facts": "check_facts(size,facts) is_true(links,fact) facts_of(links,nodes)",
    "fits": "count_fits(size,facts) fit_at(size,facts,place) each_fit(size,facts) status(size,facts,fact)",
    "sketches": "readings(size,sketch,facts,*,mode='free') settled_gaps(size,sketch,facts,*,mode='free')",
    "desk": "probe(desk,*operations)",
    "report": "gap_table(links)",
    "cases": "case_of(size,log) is_case(case)",
}
# For each class: its module, its own parameters, and its methods.
CLASSES = {
    "Links": ("links", "(size)", """left(node) right(node) is_out(node) outs() apply(operation) walk() walk_back()
        is_sound() is_whole() copy() dump()"""),
    "Verdict": ("verdicts", "(out_nodes,gap,index)", ""),
    "FreeMode": ("modes", "()", "refusal(links,operation)"),
    "SavingMode": ("modes", "()", "refusal(links,operation)"),
    "GuardedMode": ("modes", "()", "refusal(links,operation)"),
    "CheckedMode": ("modes", "()", "refusal(links,operation)"),
    "Atlas": ("atlas", "(size,*,mode='free')", "knows(links) steps(links,other) log_to(links)"),
    "Forest": ("forest", "(size)", """links() tops() parent(node) chain(node) below(node) unlinked(node) relinked(node)
        ways_back()"""),
    "Desk": ("desk", "(size,*,mode='free',capacity=200)", """change_mode(mode) do(operation) attempt(*operations)
        retract(index) repair() undo() redo() log() links() twin()"""),
}
SIGNS = dict.fromkeys(["Links", "Forest"], ["__len__", "__contains__", "__str__", "__eq__"])
GENERATORS = ("standings", "each_forest", "each_fit", "walk", "walk_back")

LOG = [-1, -2, 1, -3, 2, 3]
LOSS = [-2, -3, 2, -1, -4]
PROGRAMS = [[-1, 1], [-3, -2, 2, 3]]
OUT = [("out", 2)]


def module(name):
    return import_module("latelink." + name)


def signature(function, of_a_class=False):
    """The parameters as the interface writes them, without the object or the class of a method."""
    found = inspect.signature(function)
    parameters = list(found.parameters.values())[1 if of_a_class else 0:]
    return str(found.replace(parameters=parameters)).replace(" ", "")


def sample_calls():
    """A call of each function of the interface, as (name of its module, its name, arguments, further arguments)."""
    links, lost, forest = replay(3, LOG[:4]), replay(4, LOSS), Forest.after(4, [1, 2, 4])
    table = [((0,), "1 2 | 0 1 | none"), ((1,), "2 2 | 0 0 | 1"), ((2,), "1 2 | 0 1 | none")]
    case = module("cases").case_of(3, LOG)
    desk = Desk(3)
    desk.attempt(-1, -2)
    return [("ops", name, values, {}) for name, values in (
        ("format_log", (LOG,)), ("parse_log", ("-1 +1",)), ("first_illegal", (3, LOG)), ("strikes", (3, [-1, -1])),
        ("squeeze", (3, [-1, 1, -1])), ("mirror", (3, LOG)), ("blocks", (3, [-1, -3])), ("block_part", (3, LOG, 2, 3)))
    ] + [("replay", name, values, {}) for name, values in (
        ("replay", (3, LOG)), ("play", (links, [2])), ("standings", (3, LOG)), ("mirrored", (links,)))
    ] + [("gaps", name, values, {}) for name, values in (
        ("gap_state", (links, 0)), ("gap_states", (links,)), ("lost_gaps", (lost,)), ("sole_holders", (links,)),
        ("gap_changes", (Links(3), -2)), ("foreign_writes", (replay(3, LOG[:3]), -3)))
    ] + [("writers", name, values, {}) for name, values in (
        ("writers", (3, LOG)), ("last_actor", (3, LOG, 0)), ("foreign_after", (3, LOG, 0)), ("decided_by", (3, LOG, 0)))
    ] + [("verdicts", name, values, {}) for name, values in (
        ("verdict", (3, LOG)), ("gap_certificate", (3, LOG, 0)), ("is_gap_certificate", (3, LOG, 0, ("right", 3, -1))),
        ("first_loss", (4, LOSS)))
    ] + [("modes", name, values, {"mode": "guarded"}) for name, values in (
        ("admits", (links, 2)), ("admitted", (links,)), ("replay_in", (3, LOG[:3])), ("first_refusal", (3, LOG)))
    ] + [("parting", "least_parting", (4, "free", "saving"), {}), ("parting", "alike", (4, "free", "saving"), {}),
         ("modes", "mode_named", ("saving",), {})
    ] + [("debts", name, values, {}) for name, values in (
        ("is_repairable", (lost,)), ("due_nodes", (links,)), ("debt_of", (links,)), ("can_finish", (links,)),
        ("repair_cost", (links, [1, 2, 3])))
    ] + [("repairs", name, values, {}) for name, values in (
        ("first_repair", (links,)), ("repairs", (links,)), ("count_repairs", (links,)), ("is_repair", (links, [2, 3])),
        ("is_least_repair", (links, [2, 3])), ("repair_within", (links, [3, 2, 1])))
    ] + [("losses", "loss_certificate", (4, LOSS), {}), ("losses", "is_loss_certificate", (4, LOSS, (1, 3, 4)), {})
    ] + [("once", name, (3, LOG), {}) for name in ("late_writes", "is_complete", "safe_next")
    ] + [("returns", name, values, {}) for name, values in (
        ("is_safe_return", (3, [1, 2], [2, 1])), ("count_returns", (3, [1, 2, 3])), ("first_unsafe", (3, [1, 2, 3])),
        ("chain_returns", (5,)), ("is_chain_return", ([2, 1, 3],)), ("count_pairs", (2,)), ("count_once", (2,)))
    ] + [("ranks", name, values, {}) for name, values in (
        ("count_forests", (5,)), ("rank", (forest,)), ("forest_at", (4, 7)), ("each_forest", (3,)))
    ] + [("distance", name, values, {}) for name, values in (
        ("kept", (forest, Forest(4))), ("distance", (forest, Forest(4))), ("reaches_in", (forest, Forest(4), 3)),
        ("first_plan", (forest, Forest(4))), ("is_plan", (forest, Forest(4), [4, 2, 1])),
        ("count_plans", (forest, Forest(4))), ("widest", (4,)), ("far_pair", (4,)))
    ] + [("programs", "is_stack", (PROGRAMS[1],), {}), ("programs", "count_schedules", (3, PROGRAMS), {}),
         ("programs", "weave", (3, *PROGRAMS), {"schedule": [0, 1]}), ("programs", "groups", (3, PROGRAMS), {})
    ] + [("schedules", name, values, {}) for name, values in (
        ("bad_schedule", (3, [[-1, 1], [-2, -3, 3, 2]])), ("safe_table", (3, PROGRAMS)),
        ("is_safe_table", (1, [[-1, 1]], table)))
    ] + [("waiting", name, (3, PROGRAMS), {}) for name in ("stuck_schedule", "refused_schedule", "run")
    ] + [("facts", name, values, {}) for name, values in (
        ("check_facts", (3, OUT)), ("is_true", (links, OUT[0])), ("facts_of", (links, [1, 2])))
    ] + [("fits", name, values, {}) for name, values in (
        ("count_fits", (3, OUT)), ("fit_at", (3, OUT, 0)), ("each_fit", (3, OUT)), ("status", (3, OUT, ("in", 1))))
    ] + [("sketches", name, (3, [0, -1, 0], OUT), {"mode": "saving"}) for name in ("readings", "settled_gaps")
    ] + [("desk", "probe", (desk, 1, 2), {}), ("report", "gap_table", (links,), {}),
         ("cases", "case_of", (3, LOG), {}), ("cases", "is_case", (case,), {})]


def shown(value):
    """The value as it is now, also that of an object."""
    if isinstance(value, Desk):
        return [value.size, value.capacity, value.mode, value.log(), value.links().dump()]
    if isinstance(value, Verdict):
        return [list(value.out_nodes), value.gap, value.index, value.whole]
    if isinstance(value, (list, tuple)):
        return [shown(member) for member in value]
    return value.NAME if hasattr(value, "NAME") else frozen(value)


def spoil(value):
    """Changes a value that belongs to the caller as much as can be."""
    if isinstance(value, Links):
        value.apply(1 if value.is_out(1) else -1)
    elif isinstance(value, Desk):
        value.repair()
        value.mode = "checked"
    elif isinstance(value, Verdict):
        value.out_nodes.append("spoiled")
    elif isinstance(value, dict):
        for member in value.values():
            spoil(member)
        value.clear()
    elif isinstance(value, (list, tuple)):
        for member in value:
            spoil(member)
        if isinstance(value, list):
            value.append("spoiled")


def copied(value):
    if isinstance(value, Links):
        return value.copy()
    if isinstance(value, Desk):
        return value.twin()
    if isinstance(value, (list, tuple)):
        return type(value)(copied(member) for member in value)
    return dict(value) if isinstance(value, dict) else value


class NamesTest(unittest.TestCase):
    def test_functions(self):
        for name, text in FUNCTIONS.items():
            for entry in text.split():
                function = getattr(module(name), entry.split("(")[0])
                self.assertTrue(inspect.isfunction(function), entry)
                self.assertEqual(function.__module__, "latelink." + name)
                self.assertEqual(function.__name__ + signature(function), entry)

    def test_classes(self):
        for name, (of_module, parameters, methods) in CLASSES.items():
            made = getattr(module(of_module), name)
            self.assertTrue(inspect.isclass(made), name)
            self.assertEqual((made.__module__, made.__name__), ("latelink." + of_module, name))
            self.assertEqual(signature(made), parameters)
            for entry in methods.split():
                method = vars(made)[entry.split("(")[0]]
                self.assertTrue(inspect.isfunction(method), (name, entry))
                self.assertEqual(method.__name__ + signature(method, True), entry)
            for sign in SIGNS.get(name, []):
                self.assertIn(sign, vars(made))

    def test_static_and_class_methods(self):
        for made, name, kind in ((Links, "read", staticmethod), (Forest, "read", staticmethod),
                                 (Forest, "of", staticmethod), (Forest, "after", classmethod),
                                 (Desk, "replayed", classmethod)):
            self.assertIs(type(vars(made)[name]), kind)
        told = [signature(function) for function in (Links.read, Forest.read, Forest.of, Forest.after, Desk.replayed)]
        self.assertEqual(told, ["(text)", "(text)", "(links)", "(size,removal)", "(size,text,*,mode='free')"])

    def test_values_of_classes_and_objects(self):
        self.assertEqual((Links.MOST, Desk.MOST), (60, 2000))
        modes = [vars(getattr(module("modes"), name + "Mode"))["NAME"] for name in ("Free", "Saving", "Guarded", "Checked")]
        self.assertEqual(tuple(modes), MODES)
        bases = [getattr(module("modes"), name).__bases__[0].__name__ for name in list(CLASSES)[3:6]]
        self.assertEqual(bases, ["FreeMode", "SavingMode", "GuardedMode"])
        for made, names in ((Links(3), ["size"]), (Atlas(1), ["size", "count"]), (Forest(3), ["size"]),
                            (Desk(3), ["size", "capacity"]), (Verdict([1], 2, 3), ["out_nodes", "gap", "index", "whole"])):
            for name in names:
                self.assertIn(name, vars(made))
        for name in ("length", "debt", "mode"):
            self.assertIsInstance(vars(Desk)[name], property)

    def test_generators(self):
        names = [(of_module, entry.split("(")[0]) for of_module, text in FUNCTIONS.items() for entry in text.split()]
        for of_module, name in names:
            function = getattr(module(of_module), name)
            self.assertIs(inspect.isgeneratorfunction(function), name in GENERATORS, name)
        for name in ("walk", "walk_back"):
            self.assertTrue(inspect.isgeneratorfunction(vars(Links)[name]))

    def test_each_module_is_a_file_of_the_package(self):
        for name in ["errors", "links", "atlas", "forest", *FUNCTIONS]:
            self.assertTrue(inspect.getsourcefile(module(name)).endswith("latelink/" + name + ".py"))


class GeneralRulesTest(LinkCase):
    """Point 2."""

    def call(self, name, function, values, named):
        result = getattr(module(name), function)(*values, **named)
        return list(result) if function in GENERATORS else result

    def test_every_function_is_called(self):
        named = {(name, entry.split("(")[0]) for name, text in FUNCTIONS.items() for entry in text.split()}
        self.assertEqual({(name, function) for name, function, _, _ in sample_calls()}, named)

    def test_no_argument_changes(self):
        for name, function, values, named in sample_calls():
            before = shown([values, *named.values()])
            self.call(name, function, values, named)
            self.assertEqual(shown([values, *named.values()]), before, function)

    def test_what_is_returned_is_new_each_time(self):
        for name, function, values, named in sample_calls():
            before = shown([values, *named.values()])
            result = self.call(name, function, values, named)
            kept = shown(result)
            spoil(result)
            self.assertEqual(shown([values, *named.values()]), before, function)
            self.assertEqual(shown(self.call(name, function, values, named)), kept, function)

    def test_a_later_change_to_an_argument_has_no_effect(self):
        for name, function, values, named in sample_calls():
            values = copied(values)
            result = self.call(name, function, values, named)
            kept = shown(result)
            spoil(values)
            self.assertEqual(shown(result), kept, function)

    def test_the_same_call_tells_the_same(self):
        for name, function, values, named in sample_calls():
            told = [shown(self.call(name, function, values, named)) for _ in range(2)]
            self.assertEqual(told[0], told[1], function)

    def test_tuples_and_lists(self):
        tuples = ["writers", "last_actor", "gap_certificate", "first_loss", "loss_certificate", "far_pair"]
        of_tuples = ["blocks", "gap_changes", "late_writes", "safe_table", "facts_of"]
        for name, function, values, named in sample_calls():
            result = self.call(name, function, values, named)
            if function in tuples:
                self.assertIs(type(result), tuple, function)
            elif isinstance(result, (list, tuple)):
                self.assertIs(type(result), list, function)
                self.assertTrue(all((type(member) is tuple) == (function in of_tuples) for member in result), function)
        rights, lefts = module("writers").writers(3, LOG)
        self.assertEqual((type(rights), type(lefts)), (list, list))

    def test_a_generator_checks_when_its_first_member_is_asked_for(self):
        for name, function, values, error in (
                ("replay", "standings", (61, []), BadSize(61)), ("replay", "standings", (3, [-1, 0]), BadOperation(0, 1)),
                ("ranks", "each_forest", (61,), BadSize(61)), ("fits", "each_fit", (3, [("in", 4)]), BadFact(0))):
            made = getattr(module(name), function)(*values)
            self.assert_error(error, next, made)

    def test_an_error_changes_nothing(self):
        links = replay(3, [-2])
        before = links.dump()
        for operation in (0, 4, -4, -2, 1, 3):
            with self.assertRaises(LinkError):
                links.apply(operation)
            self.assertEqual(links.dump(), before)
        atlas = Atlas(2)
        told = (atlas.size, atlas.count, atlas.log_to(replay(2, [-1])))
        with self.assertRaises(LinkError):
            atlas.log_to(Links(3))
        self.assertEqual((atlas.size, atlas.count, atlas.log_to(replay(2, [-1]))), told)

    def test_methods_return_new_lists(self):
        atlas, links, forest, desk = Atlas(2), replay(3, [-2]), Forest.after(4, [1, 2, 4]), Desk(3)
        desk.attempt(-1, -2)
        for function, values in ((atlas.log_to, (replay(2, [-1]),)), (links.outs, ()), (forest.tops, ()),
                                 (forest.chain, (1,)), (forest.below, (2,)), (desk.log, ())):
            self.assert_new(function, *values)


class OrderOfErrorsTest(LinkCase):
    """Point 3."""

    def test_the_size_and_then_the_mode_come_first(self):
        bad_log, bad_programs, bad_facts = [0], [[0]], [("odd",)]
        for of_module, function, values in (
                ("modes", "replay_in", (bad_log,)), ("modes", "first_refusal", (bad_log,)),
                ("waiting", "stuck_schedule", (bad_programs,)), ("waiting", "refused_schedule", (bad_programs,)),
                ("waiting", "run", (bad_programs,)), ("sketches", "readings", ([9], bad_facts)),
                ("sketches", "settled_gaps", ([9], bad_facts))):
            call = getattr(module(of_module), function)
            self.assert_error(BadSize(61), call, 61, *values, mode="odd")
            self.assert_error(BadMode("odd"), call, 3, *values, mode="odd")
        self.assert_error(BadMode("odd"), module("modes").admits, Links(3), 0, mode="odd")

    def test_each_operation_is_checked_before_the_next_one(self):
        log_functions = ["squeeze", "replay", "verdict", "first_loss", "late_writes", "is_complete", "safe_next"]
        for name, function, _, _ in sample_calls():
            if function in log_functions:
                for error, log in ((Illegal(1, 0), [1, 0]), (BadOperation(0, 0), [0, 1]), (Illegal(-1, 1), [-1, -1, 9])):
                    self.assert_error(error, getattr(module(name), function), 3, log)
        self.assert_error(Refused(1, 2, "checked"), module("modes").replay_in, 3, [-1, -2, 1, 0], mode="checked")
        self.assert_error(Illegal(-1, 2), module("modes").replay_in, 3, [-1, -2, -1, 0], mode="checked")

    def test_an_error_behind_the_answer(self):
        for function, size, log in (("first_loss", 4, LOSS), ("decided_by", 3, LOG[:4]), ("first_refusal", 3, LOG[:4]),
                                    ("late_writes", 3, LOG[:4]), ("first_illegal", 3, [1]), ("foreign_after", 3, LOG[:4]),
                                    ("last_actor", 3, LOG[:4]), ("loss_certificate", 4, LOSS)):
            name = next(name for name, text in FUNCTIONS.items() if function + "(" in text)
            further = {"decided_by": (0,), "foreign_after": (0,), "last_actor": (0,)}.get(function, ())
            named = {"mode": "guarded"} if function == "first_refusal" else {}
            error = BadOperation(0, len(log) + 1)
            self.assert_error(error, getattr(module(name), function), size, log + [-log[-1], 0], *further, **named)
        self.assert_error(BadText(2), module("ops").parse_log, "-1 +1 x")

    def test_what_comes_last(self):
        self.assert_error(BadGap(9), gap_certificate, 3, LOG, 9)
        self.assert_error(NotLost(3), loss_certificate, 3, LOG)
        self.assert_error(TooMany(150), module("schedules").bad_schedule, 3, [[-1, 1] * 75])
        self.assert_error(Unsafe([0, 1, 0, 1, 1, 1]), module("schedules").safe_table, 3, [[-1, 1], [-2, -3, 3, 2]])
        self.assert_error(Stuck([0, 0]), module("waiting").run, 2, [[-1, -2, 1, 2]])
        self.assert_error(SizeMismatch(3, 4), module("distance").is_plan, Forest(3), Forest(4), [0])


class MainPromiseTest(LinkCase):
    """Point 1: for each gap how it ends and which operation decided it; and a shortest repair, or a lost gap."""

    def assert_promise(self, size, log):
        links = replay(size, log)
        states = gap_states(links)
        self.assertEqual(states, after(size, log).states())
        for gap, state in enumerate(states):
            index = decided_by(size, log, gap)
            if index == -1:
                self.assertEqual(state, "joined")
            else:
                before, behind = gap_states(replay(size, log[:index])), gap_states(replay(size, log[:index + 1]))
                self.assertNotEqual(before[gap], behind[gap])
                self.assertEqual(behind[gap], state)
        if is_repairable(links):
            repair = first_repair(links)
            self.assertTrue(play(links, repair).is_whole())
            self.assertEqual(len(repair), debt_of(links))
            self.assertTrue(is_least_repair(links, repair))
        else:
            certificate = loss_certificate(size, log)
            self.assertEqual(certificate[0], states.index("lost"))
            self.assertTrue(is_loss_certificate(size, log, certificate))
        return is_repairable(links)

    def test_every_short_log(self):
        for size, longest in ((0, 0), (1, 4), (2, 5), (3, 4), (4, 4)):
            for log in legal_logs(size, longest):
                self.assert_promise(size, log)
        lost = [log for log in islice(legal_logs(4, 5), 400, None) if not self.assert_promise(4, log)]
        self.assertIn(LOSS, lost)

    def test_long_logs(self):
        for size, step in ((20, 7), (60, 11), (60, 13)):
            nodes = [(index * index * step + index) % size + 1 for index in range(150)]
            self.assert_promise(size, signed(nodes))


if __name__ == "__main__":
    unittest.main()
