"""Flows: how much can go from sources to sinks, and what shows that no more can (promises 61 to 63)."""

from winoften.errors import InvalidFlow, InvalidNumber
from winoften.forms import is_list, is_list_of, is_tuple_of, is_whole
from winoften.networks import Network
from winoften.ratios import is_amount, is_below, is_number, total
from winoften.scales import Scale

MOST_SOURCES = 700
MOST_SINKS = 20
MOST_LINKS = 3000


def greatest_flow(masses, limits, links):
    """Return the sum of a greatest flow, the flow, and a cut whose bound is this sum."""
    _check_network(masses, limits, links)
    bounds = [most for _, _, most in links if most is not None]
    scale = Scale([*masses, *limits, *bounds])
    ways = links
    if bounds:
        ways = [(source, sink, None if most is None else scale.whole(most)) for source, sink, most in links]
    network = Network(scale.wholes(masses), len(limits), ways)
    network.fill(scale.wholes(limits))
    amounts = network.amounts()
    # Many links lead the same amount, and a Ratio never changes.
    known = {amount: scale.ratio(amount) for amount in sorted(set(amounts))}
    return scale.ratio(network.flowing()), [known[amount] for amount in amounts], network.cut()


def is_flow(masses, limits, links, told):
    """Tell whether any value is a flow."""
    _check_network(masses, limits, links)
    if not is_list_of(told, len(links), len(links)) or not all([is_amount(amount) for amount in told]):
        return False
    out_of = [[] for _ in masses]
    into = [[] for _ in limits]
    for (source, sink, most), amount in zip(links, told):
        if most is not None and is_below(most, amount):
            return False
        out_of[source].append(amount)
        into[sink].append(amount)
    return _keep_within(out_of, masses) and _keep_within(into, limits)


def is_cut(masses, limits, links, told, most):
    """Tell whether any value is a cut with a bound of at most a number."""
    _check_network(masses, limits, links)
    if not is_number(most):
        raise InvalidNumber(most)
    if not is_tuple_of(told, 2):
        return False
    sources, sinks = told
    if not _are_indices(sources, len(masses)) or not _are_indices(sinks, len(limits)):
        return False
    inside = {source: True for source in sources}
    crossing = [bound for source, sink, bound in links if source in inside and sink not in sinks]
    if None in crossing:
        return False
    left_out = [mass for source, mass in enumerate(masses) if source not in inside]
    return not is_below(most, total([*left_out, *[limits[sink] for sink in sinks], *crossing]))


def _check_network(masses, limits, links):
    if not _are_amounts(masses, MOST_SOURCES):
        raise InvalidFlow(masses)
    if not _are_amounts(limits, MOST_SINKS):
        raise InvalidFlow(limits)
    if not is_list_of(links, 0, MOST_LINKS) or not _are_links(links, len(masses), len(limits)):
        raise InvalidFlow(links)


def _are_amounts(value, most):
    return is_list_of(value, 0, most) and all([is_amount(item) for item in value])


def _are_links(items, sources, sinks):
    """Tell whether all these values are links between so many sources and sinks."""
    # There may be many: what is judged here by itself is judged elsewhere by functions.
    for item in items:
        if not isinstance(item, tuple) or len(item) != 3:
            return False
        source, sink, most = item
        if source is True or source is False or not isinstance(source, int) or not 0 <= source < sources:
            return False
        if sink is True or sink is False or not isinstance(sink, int) or not 0 <= sink < sinks:
            return False
        if most is not None and not is_amount(most):
            return False
    return True


def _is_index(value, count):
    return is_whole(value) and 0 <= value < count


def _are_indices(value, count):
    """Tell whether any value is a list of different indices, in any order."""
    if not is_list(value) or not all([_is_index(item, count) for item in value]):
        return False
    return len(set(value)) == len(value)


def _keep_within(groups, bounds):
    """Tell whether no group of amounts has a sum above its bound."""
    return not any([is_below(bound, total(group)) for group, bound in zip(groups, bounds)])
