"""Webs: all flows of a net with the least costs, which change into each other along tight halves.

A half is tight if it costs just what the heights allow. Halves can be closed: a dict of them as keys.
"""

from lumplooks.flows import carry
from lumplooks.nets import OUTSIDE

# Stands for no seat, with which a loose seat can be exchanged. No seat has this name.
NOTHING = ""


class Web:
    """The tight halves of a net. It never changes."""

    def __init__(self, flow):
        net, heights = flow.net, flow.heights
        self.net = net
        self.tight = [
            [half for half in halves if net.costs[half] + heights[node] == heights[net.heads[half]]]
            for node, halves in enumerate(net.around)
        ]

    def reached(self, left, starts, closed, turn=0, walls=()):
        """The nodes to which tight halves with room lead from some nodes, each with the half by which it was reached.

        If turn is 1, the nodes from which such halves lead to these nodes. No way goes through the walls.
        """
        heads, tight = self.net.heads, self.tight
        came = {node: None for node in [*walls, *starts]}
        stack = list(starts)
        while stack:
            node = stack.pop()
            for half in tight[node]:
                head = heads[half]
                if head not in came and left[half ^ turn] > 0 and half not in closed:
                    came[head] = half
                    stack.append(head)
        return came

    def can_change(self, left, half):
        """Whether an arc for one part has it in some best flows and has none in others; left is of one of them."""
        net = self.net
        tail, head = net.tail(half), net.heads[half]
        if half not in self.tight[tail]:
            return False
        start, end = (tail, head) if left[half] == 0 else (head, tail)
        return end in self.reached(left, [start], {})


class Fit:
    """A best flow, and the seats whose parts at the end are asked for and so must stay as they are. It never changes.

    `unsettled` is the list of the names of the other seats whose parts at the end can still change, in order.
    """

    def __init__(self, web, left, closed):
        net = web.net
        self.web = web
        self.net = net
        self.left = left
        self._closed = closed
        self._forth = web.reached(left, [OUTSIDE], closed)
        self._back = web.reached(left, [OUTSIDE], closed, 1)
        self.unsettled = [
            name for name, half in net.ends.items()
            if half in web.tight[net.tail(half)] and half not in closed and net.tail(half) in self._ways(name)
        ]

    def has(self, name):
        """Whether a seat has a named part at the end."""
        return self.left[self.net.ends[name]] == 0

    def fates(self):
        """The dict from the name of each seat to its fate over all best flows with these closed seats."""
        settled = {name: "sure" if self.has(name) else "never" for name in self.net.ends}
        return {name: "perhaps" if name in self.unsettled else fate for name, fate in settled.items()}

    def turned(self, name):
        """What room is left in a best flow in which an unsettled seat is changed, and at most one seat more."""
        net = self.net
        half = net.ends[name]
        turn = 1 if self.has(name) else 0
        left = list(self.left)
        carry(net, left, self._ways(name), net.tail(half), turn)
        left[half ^ turn] -= 1
        left[half ^ turn ^ 1] += 1
        return left

    def answered(self, name, is_named):
        """A best flow in which a seat has a named part at the end, or has none, and stays so; None if there is none."""
        left = self.left
        if self.has(name) != is_named:
            if name not in self.unsettled:
                return None
            left = self.turned(name)
        half = self.net.ends[name]
        return Fit(self.web, left, {**self._closed, half: True, half + 1: True})

    def partners(self):
        """For each unsettled seat, and for NOTHING, the list of those for which it can be exchanged in this flow.

        Of two partners one has a named part at the end, and the other one has none.
        """
        net = self.net
        begins = [half for half in self.web.tight[OUTSIDE] if half % 2 == 0]
        from_nothing = self._reached([net.heads[half] for half in begins if self.left[half] > 0])
        named = [name for name in self.unsettled if self.has(name)]
        others = [name for name in self.unsettled if not self.has(name)]
        new = [name for name in others if net.tail(net.ends[name]) in from_nothing]
        found = {name: [] for name in [*self.unsettled, NOTHING]}
        for name in named:
            reached = self._reached([net.tail(net.ends[name])])
            is_loose = any([self.left[half + 1] > 0 and net.heads[half] in reached for half in begins])
            # Without the one part, and with another one that comes from nothing, is an exchange, too.
            note_partners(found, name, [
                other for other in others if net.tail(net.ends[other]) in reached or (is_loose and other in new)
            ])
            if is_loose:
                note_partners(found, name, [NOTHING])
        note_partners(found, NOTHING, new)
        return found

    def _reached(self, starts):
        return self.web.reached(self.left, starts, self._closed, 0, [OUTSIDE])

    def _ways(self, name):
        """The ways by which the end of a seat can be changed: to it, or from it if it has a named part."""
        return self._back if self.has(name) else self._forth


def note_partners(found, name, others):
    """Note that one name and some others are partners."""
    found[name].extend(others)
    for other in others:
        found[other].append(name)
