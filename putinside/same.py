"""Histories that lead to the same nesting, and how neighbours are exchanged to get from one to another."""

from putinside.errors import Blocked, NoIndex, OtherNesting
from putinside.histories import gap_spans
from putinside.nestings import nesting_after
from putinside.rows import is_number


def same_nesting(row, one, other):
    """Whether two HISTORYs lead to the same NESTING."""
    return nesting_after(row, one) == nesting_after(row, other)


def check_same(row, one, other):
    """Raise OtherNesting if the HISTORYs do not lead to the same NESTING."""
    if not same_nesting(row, one, other):
        raise OtherNesting()


def is_index(history, index):
    """Whether the number is an index at which the HISTORY has two neighbours."""
    return 0 <= index <= len(history) - 2


def is_free(spans, history, index):
    """Whether the exchange is free, the spans being those of the NESTING to which the HISTORY leads."""
    low, high = spans[history[index + 1]]
    return not low <= history[index] <= high


def exchange(gaps, index):
    """Let the neighbours at the index change places in the list itself."""
    gaps[index], gaps[index + 1] = gaps[index + 1], gaps[index]


def free_exchanges(row, history):
    """The ascending list of the indices of free exchanges."""
    spans = gap_spans(row, nesting_after(row, history))
    return [index for index in range(len(history) - 1) if is_free(spans, history, index)]


def exchanged(row, history, index):
    """The HISTORY after a free exchange."""
    if not is_index(history, index):
        raise NoIndex(index)
    if not is_free(gap_spans(row, nesting_after(row, history)), history, index):
        raise Blocked(index)
    after = list(history)
    exchange(after, index)
    return after


def wanted_indices(one, other):
    """For each gap of the one list its index in the other."""
    index_of = {gap: index for index, gap in enumerate(other)}
    return [index_of[gap] for gap in one]


def exchanges_apart(row, one, other):
    """The fewest free exchanges that turn one HISTORY into the other one."""
    check_same(row, one, other)
    wanted = wanted_indices(one, other)
    many = 0
    for at, index in enumerate(wanted):
        many += len([before for before in wanted[:at] if before > index])
    return many


def exchange_plan(row, one, other):
    """A list of the fewest indices of free exchanges that turn one HISTORY into the other one."""
    check_same(row, one, other)
    wanted = wanted_indices(one, other)
    plan = []
    # Only gaps that stand the other way round change places. As both orders of them lead to the NESTING,
    # neither needs the other, and the exchange is free.
    for end in range(len(wanted)):
        index = end - 1
        while index >= 0 and wanted[index] > wanted[index + 1]:
            exchange(wanted, index)
            plan.append(index)
            index -= 1
    return plan


def shows_exchange_plan(row, one, other, thing):
    """Whether thing is a list of indices of exchanges, each free in its turn, that turn one into the other one."""
    if not isinstance(thing, list):
        return False
    spans = gap_spans(row, nesting_after(row, one))
    history = list(one)
    for index in thing:
        if not is_number(index) or not is_index(history, index) or not is_free(spans, history, index):
            return False
        exchange(history, index)
    return history == list(other)
