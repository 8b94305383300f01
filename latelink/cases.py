"""Cases: what the parts of the program tell of one log, and whether such a case is right."""

from latelink.debts import is_repairable
from latelink.errors import BadText, LinkError, NotChecked
from latelink.forest import Forest
from latelink.gaps import gap_states
from latelink.links import Links
from latelink.losses import is_loss_certificate, loss_certificate
from latelink.modes import all_modes, first_refusal
from latelink.ops import format_log, parse_log
from latelink.repairs import first_repair, is_least_repair
from latelink.replay import replay
from latelink.writers import writers


def case_of(size, log):
    """Returns the case of the log."""
    links = replay(size, log)
    right_writes, left_writes = writers(size, log)
    can_be_whole = is_repairable(links)
    return {
        "size": size,
        "log": format_log(log),
        "dump": links.dump(),
        "gaps": list(zip(gap_states(links), right_writes, left_writes)),
        "sound": links.is_sound(),
        "modes": [first_refusal(size, log, mode=known.NAME) for known in all_modes()],
        "repair": format_log(first_repair(links)) if can_be_whole else None,
        "loss": None if can_be_whole else loss_certificate(size, log),
        "tree": _tree_text(links),
    }


def is_case(case):
    """True exactly if the dict is a right case."""
    if "size" not in case or "log" not in case:
        return False
    try:
        log = parse_log(case["log"])
        right = case_of(case["size"], log)
    except LinkError:
        return False
    if len(case) != len(right) or not all([key in case for key in right]):
        return False
    # The log alone does not settle these two: any least repair and any certificate of loss will do.
    settled = [key for key in right if key not in ("repair", "loss")]
    return (all([case[key] == right[key] for key in settled]) and _is_repair_text(right, case["repair"])
            and _is_loss(right, log, case["loss"]))


def _tree_text(links):
    try:
        return str(Forest.of(links))
    except NotChecked:
        return None


def _is_repair_text(right, text):
    """True exactly if the value can stand for the repair in this right case: a text, or None if there is none."""
    if text is None:
        return right["repair"] is None
    try:
        return is_least_repair(Links.read(right["dump"]), parse_log(text))
    except BadText:
        return False


def _is_loss(right, log, value):
    """True exactly if the value can stand for the loss in this right case: a certificate, or None if there is none."""
    if right["loss"] is None:
        return value is None
    return is_loss_certificate(right["size"], log, value)
