"""Flows: how much can go from sources to sinks, and what shows that no more can (promises 61 to 63)."""

from winoften.errors import InvalidFlow, InvalidNumber
from winoften.forms import is_list, is_list_of, is_tuple_of, is_whole
from winoften.networks import Network
from winoften.ratios import as_ratio, is_amount, is_number, total
from winoften.scales import Scale

MOST_SOURCES = 700
MOST_SINKS = 20
MOST_LINKS = 3000


def greatest_flow(masses, limits, links):
    """Return the sum of a greatest flow, the flow, and a cut whose bound is this sum."""
    _check_network(masses, limits, links)
    bounds = [most for _, _, most in links]
    scale = Scale([*masses, *limits, *[most for most in bounds if most is not None]])
    wholes = [None if most is None else scale.whole(most) for most in bounds]
    ways = [(source, sink, whole) for (source, sink, _), whole in zip(links, wholes)]
    network = Network(scale.wholes(masses), len(limits), ways)
    network.fill(scale.wholes(limits))
    flow = [scale.ratio(amount) for amount in network.amounts()]
    return scale.ratio(network.flowing()), flow, network.cut()


def is_flow(masses, limits, links, told):
    """Tell whether any value is a flow."""
    _check_network(masses, limits, links)
    if not is_list_of(told, len(links), len(links)) or not all([is_amount(amount) for amount in told]):
        return False
    out_of = [[] for _ in masses]
    into = [[] for _ in limits]
    for (source, sink, most), amount in zip(links, told):
        if most is not None and _is_above(amount, most):
            return False
        out_of[source].append(amount)
        into[sink].append(amount)
    return _keep_within(out_of, masses) and _keep_within(into, limits)


def is_cut(masses, limits, links, told, most):
    """Tell whether any value is a cut with a bound of at most a number."""
    _check_network(masses, limits, links)
    if not is_number(most):
        raise InvalidNumber(most)
    if not is_tuple_of(told, 2):
        return False
    sources, sinks = told
    if not _are_indices(sources, len(masses)) or not _are_indices(sinks, len(limits)):
        return False
    crossing = [bound for source, sink, bound in links if source in sources and sink not in sinks]
    if None in crossing:
        return False
    left_out = [mass for source, mass in enumerate(masses) if source not in sources]
    return not _is_above(total([*left_out, *[limits[sink] for sink in sinks], *crossing]), most)


def _check_network(masses, limits, links):
    if not _are_amounts(masses, MOST_SOURCES):
        raise InvalidFlow(masses)
    if not _are_amounts(limits, MOST_SINKS):
        raise InvalidFlow(limits)
    if not is_list_of(links, 0, MOST_LINKS):
        raise InvalidFlow(links)
    if not all([_is_link(item, len(masses), len(limits)) for item in links]):
        raise InvalidFlow(links)


def _are_amounts(value, most):
    return is_list_of(value, 0, most) and all([is_amount(item) for item in value])


def _is_link(value, sources, sinks):
    if not is_tuple_of(value, 3):
        return False
    source, sink, most = value
    return _is_index(source, sources) and _is_index(sink, sinks) and (most is None or is_amount(most))


def _is_index(value, count):
    return is_whole(value) and 0 <= value < count


def _are_indices(value, count):
    """Tell whether any value is a list of different indices, in any order."""
    if not is_list(value) or not all([_is_index(item, count) for item in value]):
        return False
    return len(set(value)) == len(value)


def _is_above(number, most):
    return as_ratio(most).below(number)


def _keep_within(groups, bounds):
    """Tell whether no group of amounts has a sum above its bound."""
    return not any([_is_above(total(group), bound) for group, bound in zip(groups, bounds)])
