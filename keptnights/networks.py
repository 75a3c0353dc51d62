"""Covers of nights by chosen spans, and flows that settle at the least cost."""

from heapq import heappop, heappush

from keptnights.loads import load_row


def covers_of(size, spans, chosen):
    """For each night below size the number of the spans with the flag 1 that have it."""
    return load_row([span for span, flag in zip(spans, chosen) if flag == 1], 0, size)


class Network:
    """Nodes and arcs between them; flow that is left over at some nodes is lacking at others.

    Arcs come in pairs: what is pushed along arc 2k can be pushed back along arc 2k + 1. The
    prices of nodes show that no flow with the same excess costs less: along an arc that can
    take more, the price never rises by more than the cost of the arc.
    """

    def __init__(self, size):
        self.excess = [0] * size
        self.prices = [0] * size
        self.leaving = [[] for node in range(size)]
        self.tails = []
        self.heads = []
        self.costs = []
        self.spare = []

    def add_arcs(self, tail, head, cost, onward, backward):
        """A pair of arcs; so much more flow can be pushed onward, and so much backward."""
        self.leaving[tail].append(len(self.tails))
        self.leaving[head].append(len(self.tails) + 1)
        self.tails.extend([tail, head])
        self.heads.extend([head, tail])
        self.costs.extend([cost, -cost])
        self.spare.extend([onward, backward])

    def flow_in(self, tail, head, many):
        """Count flow that goes from a node to another one."""
        self.excess[tail] -= many
        self.excess[head] += many

    def nearest(self, starts):
        """How far each node is from the nearest start, and the last arcs of the ways there."""
        far = {node: 0 for node in starts}
        last = {}
        queue = [(0, node) for node in far]
        while len(queue) > 0:
            distance, node = heappop(queue)
            # A node that was found again on a shorter way is in the queue twice.
            if distance == far[node]:
                start = distance + self.prices[node]
                for arc in self.leaving[node]:
                    head = self.heads[arc]
                    reach = start + self.costs[arc] - self.prices[head]
                    if self.spare[arc] > 0 and (head not in far or reach < far[head]):
                        far[head] = reach
                        last[head] = arc
                        heappush(queue, (reach, head))
        return far, last

    def costs_from(self, start):
        """By the nodes that a start reaches, what it costs at least to push flow there."""
        far, _ = self.nearest([start])
        return {node: far[node] + self.prices[node] - self.prices[start] for node in far}

    def raise_prices(self, far):
        """Let the prices show the shortest ways as ways without any loss."""
        most = max(list(far.values()))
        for node in range(len(self.prices)):
            self.prices[node] += far.get(node, most)

    def push_to(self, node, last):
        """Push what can be pushed along the way to a node that lacks flow."""
        way = []
        start = node
        while start in last:
            way.append(last[start])
            start = self.tails[last[start]]
        many = min([self.excess[start], -self.excess[node]] + [self.spare[arc] for arc in way])
        self.flow_in(start, node, many)
        for arc in way:
            self.spare[arc] -= many
            # The other arc of the pair.
            self.spare[arc ^ 1] += many

    def settle(self):
        """Push all excess to where flow is lacking, at the least cost.

        Returns None, or, if that cannot be done, the nodes that the excess can reach.
        """
        while max(self.excess) > 0:
            far, last = self.nearest([node for node in range(len(self.excess)) if self.excess[node] > 0])
            lacking = [node for node in far if self.excess[node] < 0]
            if len(lacking) == 0:
                return far
            self.raise_prices(far)
            for node in lacking:
                self.push_to(node, last)
        return None
