"""The gap table: a text for each gap of a standing."""

from latelink.gaps import gap_states


def gap_table(links):
    """Returns the rows of the gap table of the standing."""
    rows = []
    for gap, state in enumerate(gap_states(links)):
        right = links.right(gap)
        left = links.left(gap + 1)
        rows.append(f"{gap:>3} {state:<6} {right:>3} {left:>3}")
    return rows
