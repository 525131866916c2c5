"""Networks in integers: how much flows from sources along links to sinks at most (promises 61 and 62).

Flows grow along shortest ways (Dinic's method): there are few sinks, so that no way is long.
"""


class Network:
    """Masses of sources, links from sources to sinks, and what flows along these so far, at first nothing."""

    def __init__(self, masses, sinks, links):
        self._left = list(masses)
        self._links = list(links)
        self._amounts = [0] * len(links)
        outs = [[] for _ in masses]
        ins = [[] for _ in range(sinks)]
        for place, (source, sink, _) in enumerate(links):
            outs[source].append(place)
            ins[sink].append(place)
        self._outs = outs
        self._ins = ins
        self._rooms = [0 for _ in range(sinks)]
        self._source_levels = []
        self._sink_levels = []
        self._next_outs = []
        self._next_ins = []

    def amounts(self):
        """Return what each link leads."""
        return list(self._amounts)

    def into(self, sink):
        """Return what flows into a sink."""
        return sum([self._amounts[place] for place in self._ins[sink]])

    def flowing(self):
        """Return what flows into all sinks."""
        return sum(self._amounts)

    def is_sated(self):
        """Tell whether each sink has got its limit."""
        return not any([room > 0 for room in self._rooms])

    def left_at(self, sources):
        """Return the mass that is left at some sources."""
        return sum([self._left[source] for source in sources])

    def cut(self):
        """Return the sources and the sinks to which more could flow, if only a sink among them could take it."""
        sources = [source for source, level in enumerate(self._source_levels) if level is not None]
        sinks = [sink for sink, level in enumerate(self._sink_levels) if level is not None]
        return sources, sinks

    def fill(self, limits):
        """Let as much flow as the limits of the sinks allow; no sink gets less than it has got before."""
        self._rooms = [limit - self.into(sink) for sink, limit in enumerate(limits)]
        while self._find_levels():
            self._next_outs = [0 for _ in self._outs]
            self._next_ins = [0 for _ in self._ins]
            for source, level in enumerate(self._source_levels):
                if level == 0:
                    self._left[source] -= self._out_of(source, self._left[source])

    def twin(self):
        """Return another network with the same flow."""
        other = Network(self._left, len(self._ins), self._links)
        other._amounts = list(self._amounts)
        return other

    def _find_levels(self):
        """Count the steps from sources with mass left, up to a sink with room; tell whether there is one."""
        self._source_levels = [0 if left > 0 else None for left in self._left]
        self._sink_levels = [None for _ in self._ins]
        sources = [source for source, left in enumerate(self._left) if left > 0]
        level = 0
        while sources:
            level += 2
            sinks = self._next_sinks(sources, level - 1)
            if any([self._rooms[sink] > 0 for sink in sinks]):
                return True
            sources = self._next_sources(sinks, level)
        return False

    def _next_sinks(self, sources, level):
        found = []
        for source in sources:
            for place in self._outs[source]:
                _, sink, most = self._links[place]
                if self._sink_levels[sink] is None and (most is None or self._amounts[place] < most):
                    self._sink_levels[sink] = level
                    found.append(sink)
        return found

    def _next_sources(self, sinks, level):
        found = []
        for sink in sinks:
            for place in self._ins[sink]:
                source = self._links[place][0]
                if self._source_levels[source] is None and self._amounts[place] > 0:
                    self._source_levels[source] = level
                    found.append(source)
        return found

    def _out_of(self, source, most):
        """Let up to so much more flow out of a source, and tell how much it is."""
        places = self._outs[source]
        done = 0
        while done < most and self._next_outs[source] < len(places):
            done += self._along(places[self._next_outs[source]], most - done)
            if done < most:
                self._next_outs[source] += 1
        return done

    def _along(self, place, most):
        source, sink, bound = self._links[place]
        if self._sink_levels[sink] != self._source_levels[source] + 1:
            return 0
        space = most if bound is None else min(most, bound - self._amounts[place])
        done = self._through(sink, space) if space > 0 else 0
        self._amounts[place] += done
        return done

    def _through(self, sink, most):
        """Let up to so much more flow into a sink, some of it in place of what other sources give it."""
        done = min(most, self._rooms[sink])
        self._rooms[sink] -= done
        places = self._ins[sink]
        while done < most and self._next_ins[sink] < len(places):
            done += self._back(places[self._next_ins[sink]], most - done)
            if done < most:
                self._next_ins[sink] += 1
        return done

    def _back(self, place, most):
        source, sink, _ = self._links[place]
        if self._source_levels[source] != self._sink_levels[sink] + 1:
            return 0
        space = min(most, self._amounts[place])
        done = self._out_of(source, space) if space > 0 else 0
        self._amounts[place] -= done
        return done
