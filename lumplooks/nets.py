"""Nets: the ways that named parts can take through the steps of a book, so that its stories are the flows of a net.

A net has nodes, which are counted, and arcs with a room for some parts and costs for each of them. The node OUTSIDE
is where parts come from and where they go at the end. A half is one direction of an arc: an even number for the
arc itself, the next number for the way back, which takes a part from the arc.
"""

from lumplooks.prices import weight

OUTSIDE = 0


class Net:
    """The net of a book and a letter. It does not change once it is made."""

    def __init__(self, book, letter):
        # For each half: the node to which it leads, the costs of a part, and the room if there is no part anywhere.
        self.heads = []
        self.costs = []
        self.rooms = []
        # For each node: the halves that lead away from it, and the parts that are surely put there.
        self.around = [[]]
        self.supply = [0]
        # What a flow without parts costs.
        self.fixed = 0
        # For each record that can be false: the arcs that tell whether it is.
        self.tellers = {}
        # For each seat: the arc of its part at the end; from which state on a part stands at which node; and
        # from which state on the seat has a named part if there are more than so many in which arc.
        self.ends = {}
        self.marks = {name: [] for name in book.names()}
        self.wires = {name: [] for name in book.names()}
        self.many_states = len(book.steps()) + 1
        self._wrong = weight(book)
        # For each seat: the node where it stands, and since which state if others can stand there, too.
        self._places = {}
        self._since = {}
        self._weave(book, letter)

    def tail(self, half):
        """The node from which a half leads away."""
        return self.heads[half ^ 1]

    def _weave(self, book, letter):
        self._begin(book, letter)
        for at, step in enumerate(book.steps()):
            if step[0] == "meeting":
                self._meet(step[4], at + 1)
            elif step[0] == "swap":
                self._swap(step[1], step[2], step[3], at + 1)
            else:
                self._tell(step[1], self._places[step[2]], step[2], step[3] in letter, at + 1)
        for name in book.names():
            half = self._add_arc(self._places[name], OUTSIDE, 1, 0)
            self._leave(name, half, 0)
            self.ends[name] = half

    def _begin(self, book, letter):
        """Put all seats where their first parts are."""
        for at, record in enumerate(book.records()):
            if record[0] == "given":
                self._tell(at, OUTSIDE, record[1], record[2] in letter, 0)
            elif record[0] == "mixed":
                hub = self._add_node()
                self._stand(hub, record[1], 0)
                many = len([number for number in record[2] if number in letter])
                self.supply[hub] += many
                self.supply[OUTSIDE] -= many
        for name in book.names():
            if name not in self._places:
                self._lead(name, OUTSIDE, 0, 0)

    def _tell(self, at, tail, name, is_right, state):
        """Lead a seat from a node to its own one, by an arc with the costs of a record of its part."""
        half = self._lead(name, tail, -self._wrong if is_right else self._wrong, state)
        self.tellers[at] = [half]
        if is_right:
            self.fixed += self._wrong

    def _swap(self, at, one, other, state):
        """Let two seats exchange their parts, or else let their parts pay for the way to the other's node before."""
        first, second = self._alone(one), self._alone(other)
        self._lead(other, first, 0, state)
        self._lead(one, second, 0, state)
        self.tellers[at] = [self._add_arc(first, second, 1, self._wrong), self._add_arc(second, first, 1, self._wrong)]

    def _meet(self, names, state):
        """Lead some seats to one node. If they stand at one already, their parts can be exchanged as it is."""
        groups = {}
        for name in names:
            groups.setdefault(self._places[name], []).append(name)
        if len(groups) == 1:
            for name in names:
                self.marks[name].append((state, self._places[name]))
            return
        hub = self._add_node()
        for node, group in groups.items():
            half = self._add_arc(node, hub, len(group), 0)
            for position, name in enumerate(group):
                self._leave(name, half, position)
        self._stand(hub, names, state)

    def _alone(self, name):
        """The node where a seat stands alone, a new one if others can stand at its present one."""
        if self._since[name] is not None:
            # Its price is that of the new node, since the last meeting in which it was.
            self._lead(name, self._places[name], 0, self.marks[name][-1][0])
        return self._places[name]

    def _lead(self, name, tail, cost, state):
        """Lead a seat from a node to a new one of its own, from a state on; returns the half."""
        node = self._add_node()
        half = self._add_arc(tail, node, 1, cost)
        self._leave(name, half, 0)
        self._places[name] = node
        self._since[name] = None
        self.marks[name].append((state, node))
        self.wires[name].append((state, half, 0))
        return half

    def _leave(self, name, half, position):
        """Note by which arc a seat leaves a node where others can stand, too."""
        if self._since.get(name) is not None:
            self.wires[name].append((self._since[name], half, position))

    def _stand(self, hub, names, state):
        """Note that some seats stand at a node together, from a state on."""
        for name in names:
            self._places[name] = hub
            self._since[name] = state
            self.marks[name].append((state, hub))

    def _add_node(self):
        """A new node; returns its number."""
        self.around.append([])
        self.supply.append(0)
        return len(self.around) - 1

    def _add_arc(self, tail, head, room, cost):
        """A new arc; returns its half forth."""
        half = len(self.heads)
        self.heads.extend([head, tail])
        self.costs.extend([cost, -cost])
        self.rooms.extend([room, 0])
        self.around[tail].append(half)
        self.around[head].append(half + 1)
        return half


def spans_of(rows, end):
    """The rows (start, ..), each one with the start of the next one behind it, or the end."""
    ends = [row[0] for row in rows[1:]]
    return list(zip(rows, [*ends, end]))


def states_of(net, left):
    """The states of the story of a flow, as lists of names; left is what room it leaves in each half."""
    states = [[] for _ in range(net.many_states)]
    for name, wires in net.wires.items():
        for (start, half, position), end in spans_of(wires, net.many_states):
            if left[half + 1] > position:
                for state in states[start:end]:
                    state.append(name)
    return states


def prices_of(net, heights):
    """The prices that the heights of the nodes give, a list for each state."""
    rows = [[] for _ in range(net.many_states)]
    for marks in net.marks.values():
        for (start, node), end in spans_of(marks, net.many_states):
            price = heights[node] - heights[OUTSIDE]
            for row in rows[start:end]:
                row.append(price)
    return rows
