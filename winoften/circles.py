"""Circles: whole amounts that go round along links, so that as much leaves each node as comes to it (promise 174)."""


def circle(links):
    """Return an amount for each link: a tuple of two nodes, and the least and the greatest amount that it may lead.

    There are to be such amounts. They come about by leading more along each link that has too little, and from its
    end along a shortest way back to its start.
    """
    amounts = [0 for _ in links]
    touching = _touching(links)
    # The last link, along which all goes round, comes first, so that few links have too little behind it.
    for place in reversed(range(len(links))):
        start, end, low, _ = links[place]
        while amounts[place] < low:
            way = _way(links, amounts, touching, end, start)
            for step, change in way:
                amounts[step] += change
            amounts[place] += 1
    return amounts


def _touching(links):
    """Return, for each node, the links that touch it: their places, the nodes beyond, and 1 or -1 for the way."""
    count = 1 + max([max(start, end) for start, end, _, _ in links])
    touching = [[] for _ in range(count)]
    for place, (start, end, _, _) in enumerate(links):
        touching[start].append((place, end, 1))
        touching[end].append((place, start, -1))
    return touching


def _way(links, amounts, touching, start, end):
    """Return the places of links, and by what to change their amounts, to lead one more from one node to another."""
    came = {start: None}
    nodes = [start]
    while end not in came:
        found = []
        for node in nodes:
            for place, other, change in touching[node]:
                if other not in came and _can_change(links[place], amounts[place], change):
                    came[other] = (node, place, change)
                    found.append(other)
        nodes = found
    way = []
    node = end
    while came[node] is not None:
        node, place, change = came[node]
        way.append((place, change))
    return way


def _can_change(link, amount, change):
    _, _, low, high = link
    return amount < high if change == 1 else amount > low
