"""Right logs of several hands as they go on together in one net."""

from collections import deque
from heapq import heappop, heappush


class Weaving:
    """How far each log has gone, what lies on the lanes then, and who can go on."""

    def __init__(self, logs):
        """Right logs by their names, of which nothing has gone yet."""
        self._logs = logs
        self._gone = {name: 0 for name in logs}
        self._lanes = {}
        # Who can go on is asked no more until it does: nobody else can hinder it.
        self._ready = []
        self._is_ready = {}

    def order(self):
        """Who goes on, the least name that can each time, until none can."""
        names = []
        self._ask(list(self._logs))
        while self._ready:
            name = heappop(self._ready)
            del self._is_ready[name]
            names.append(name)
            self._ask(self._go_on(name))
        return names

    def is_whole(self):
        """Whether all logs have gone to their ends."""
        return all([self._gone[name] == len(self._logs[name]) for name in self._logs])

    def _due(self, name):
        """What a hand does next, None where it does no more or is none here."""
        if name not in self._logs or self._gone[name] == len(self._logs[name]):
            return None
        return self._logs[name][self._gone[name]][0]

    def _ask(self, names):
        """See who of these can go on now: of two that join or part it is the lesser one that does."""
        for name in names:
            what = self._due(name)
            first = name
            if what is not None and what[0] in ("join", "part") and what[1] < name:
                first = what[1]
            if first not in self._is_ready and self._can_go_on(first):
                self._is_ready[first] = True
                heappush(self._ready, first)

    def _can_go_on(self, name):
        """Whether what a hand does next can be now, by its name."""
        what = self._due(name)
        if what is None:
            return False
        if what[0] == "hear":
            lane = self._lanes.get((what[1], name), None)
            return bool(lane) and lane[0] == what[2]
        if what[0] in ("join", "part"):
            return name < what[1] and self._due(what[1]) == (what[0], name)
        return True

    def _go_on(self, name):
        """Let a hand, or two that join or part, go on: who may be able to do so now."""
        what = self._due(name)
        going = [name]
        if what[0] == "hear":
            self._lanes[(what[1], name)].popleft()
        elif what[0] in ("join", "part"):
            going.append(what[1])
            # Whether the road comes or goes, nothing lies there then.
            self._lanes[(name, what[1])] = deque()
            self._lanes[(what[1], name)] = deque()
        asked = list(going)
        for one in going:
            _, told = self._logs[one][self._gone[one]]
            self._gone[one] += 1
            for neighbour, letter in told:
                self._lanes[(one, neighbour)].append(letter)
                asked.append(neighbour)
        return asked
