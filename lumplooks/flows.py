"""Flows: the ways that all named parts of a story take through a net, with the least costs.

A flow is told by what room it leaves in each half. Heights of the nodes show that its costs are the least: no half
with room left costs less than the height to which it leads exceeds that from which it leads.
"""

from heapq import heappop, heappush


class Flow:
    """A flow with the least costs, with the heights that show it. It never changes."""

    def __init__(self, net, left, heights):
        self.net = net
        self.left = left
        self.heights = heights

    def cost(self):
        """What the false records of its story cost together."""
        net = self.net
        paid = [net.costs[half] * self.left[half + 1] for half in range(0, len(net.heads), 2)]
        return net.fixed + sum(paid)

    def has(self, name):
        """Whether a seat has a named part at the end."""
        return self.left[self.net.ends[name]] == 0

    def is_wrong(self, half):
        """Whether an arc that costs something has no part, although this would be cheaper, or the other way round."""
        return (self.left[half] == 0) == (self.net.costs[half] > 0)

    def bent(self, extras):
        """A flow with the least costs if the parts that some seats have at the end cost something, too."""
        net = self.net
        costs = list(net.costs)
        for name, extra in extras.items():
            half = net.ends[name]
            costs[half] += extra
            costs[half + 1] -= extra
        left = list(self.left)
        heights = list(self.heights)
        settle(net, costs, left, heights, [0] * len(heights))
        return Flow(net, left, heights)


def best_flow(net):
    """A flow with the least costs."""
    left = list(net.rooms)
    heights = [0] * len(net.around)
    settle(net, net.costs, left, heights, list(net.supply))
    return Flow(net, left, heights)


def settle(net, costs, left, heights, excess):
    """Change what is left and the heights so that the costs are the least; excess is how many parts a node has."""
    fill_cheap(net, costs, left, heights, excess)
    while max(excess) > 0:
        lower(net, costs, left, heights, excess)
        send_all(net, costs, left, heights, excess)


def fill_cheap(net, costs, left, heights, excess):
    """Fill each half that costs less than the heights allow, wherever the parts may come from."""
    for node, halves in enumerate(net.around):
        for half in halves:
            head = net.heads[half]
            many = left[half]
            if many > 0 and costs[half] + heights[node] < heights[head]:
                left[half] = 0
                left[half ^ 1] += many
                excess[node] -= many
                excess[head] += many


def lower(net, costs, left, heights, excess):
    """Lower the nodes that are near those with too many parts, until a part can go to a node with too few for free."""
    queue = [(0, node) for node, many in enumerate(excess) if many > 0]
    reached = {}
    far = 0
    while queue:
        far, node = heappop(queue)
        if excess[node] < 0:
            break
        if node in reached:
            continue
        reached[node] = far
        for half in net.around[node]:
            head = net.heads[half]
            if left[half] > 0 and head not in reached:
                heappush(queue, (far + costs[half] + heights[node] - heights[head], head))
    for node, near in reached.items():
        heights[node] -= far - near


def send_all(net, costs, left, heights, excess):
    """Send as many parts as possible for free from nodes with too many to nodes with too few."""
    dead = {}
    for start, many in enumerate(list(excess)):
        for _ in range(many):
            if not send(net, costs, left, heights, excess, start, dead):
                break


def send(net, costs, left, heights, excess, start, dead):
    """Send one part from a node for free; if it can go nowhere, note where it was, and return False."""
    came = {start: None}
    stack = [start]
    while stack:
        node = stack.pop()
        if excess[node] < 0:
            carry(net, left, came, node, 0)
            excess[start] -= 1
            excess[node] += 1
            return True
        for half in net.around[node]:
            head = net.heads[half]
            if left[half] > 0 and head not in came and head not in dead:
                if costs[half] + heights[node] == heights[head]:
                    came[head] = half
                    stack.append(head)
    for node in came:
        dead[node] = True
    return False


def carry(net, left, came, node, turn):
    """Move a part along the halves by which a search came to a node; a turn of 1 is a search against the halves."""
    half = came[node]
    while half is not None:
        left[half ^ turn] -= 1
        left[half ^ turn ^ 1] += 1
        half = came[net.tail(half)]
