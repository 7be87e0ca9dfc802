"""Walks in graphs: the shortest way to a node, the heaviest walk from one, and rings on which weights are gained.

A graph has finitely many nodes and a method edges: for a node it returns a list of tuples of a weight, which is 0 or
greater, the node to which the edge leads, and the letter that is read on the way. END stands for what is not gone on
from; it is never asked for its edges.
"""

END = 0


def ways_from(graph, sources, goal):
    """Return for each node that is come to from some nodes the node and the letter from which it is come to first.

    These nodes themselves have None. The search goes by the number of letters, and stops when it comes to the goal.
    """
    ways = {node: None for node in sources}
    waiting = list(ways)
    at = 0
    while at < len(waiting) and goal not in ways:
        node = waiting[at]
        for _, target, letter in graph.edges(node):
            if target not in ways:
                ways[target] = (node, letter)
                if target != END:
                    waiting.append(target)
        at += 1
    return ways


def way_to(ways, node):
    """Return the node from which another one is come to, and the list of the letters that lead there."""
    letters = []
    while ways[node] is not None:
        node, letter = ways[node]
        letters.append(letter)
    return (node, letters[::-1])


def ring_of(graph, edge):
    """Return the letters of a ring that begins with an edge, a tuple of a node, the node behind it, and the letter."""
    node, target, letter = edge
    _, back = way_to(ways_from(graph, [target], node), node)
    return [letter] + back


def heaviest_way(graph, weights, node):
    """Return the letters of a heaviest walk from a node; weights are those of the heaviest walks."""
    if weights[node] == 0:
        return []
    _, letters = way_to(ways_from(Tight(graph, weights), [node], END), END)
    return letters


class Tight:
    """A graph of those edges of another one that a heaviest walk may use; it ends where no weight is left."""

    def __init__(self, graph, weights):
        self._graph = graph
        self._weights = weights

    def edges(self, node):
        """Return the edges from a node."""
        found = []
        for weight, target, letter in self._graph.edges(node):
            left = self._weights[target]
            if weight + left == self._weights[node]:
                found.append((weight, target if left > 0 else END, letter))
        return found


class Visit:
    """A node while a search in depth goes through its edges."""

    def __init__(self, node, ahead, entry, onward):
        self.node = node
        # The edge by which the search has come here: None at first, and its weight.
        self.ahead = ahead
        self.entry = entry
        self.onward = onward
        self.past = 0
        self.best = 0


class Heaviest:
    """The weights of the heaviest walks from each node of a graph that is come to from some nodes.

    The search goes in depth and brings nodes that lead to each other into circles. If an edge with a weight above 0
    lies on a circle, rising is this edge, as ring_of takes it, the search stops, and there are no greatest weights.
    Otherwise rising is None, and weights tells them; those of one circle are equal.
    """

    def __init__(self, graph, nodes):
        self.weights = {END: 0}
        self.rising = None
        self._graph = graph
        self._places = {}
        # The nodes whose circles are not complete, and the visits of those with which circles begin so far.
        self._open = []
        self._heads = []
        self._visits = []
        for node in nodes:
            if self.rising is None and node not in self._places:
                self._search(node)

    def _search(self, node):
        """Go through all that is come to from a node."""
        self._enter(node, None, 0)
        while self._visits and self.rising is None:
            visit = self._visits[-1]
            if visit.past < len(visit.onward):
                visit.past += 1
                self._follow(visit, visit.onward[visit.past - 1])
            else:
                self._leave(self._visits.pop())

    def _enter(self, node, ahead, entry):
        """Begin with a node, come to by an edge of some weight."""
        visit = Visit(node, ahead, entry, self._graph.edges(node))
        self._places[node] = len(self._places)
        self._open.append(node)
        self._heads.append(visit)
        self._visits.append(visit)

    def _follow(self, visit, edge):
        """Follow an edge of a node."""
        weight, target, letter = edge
        if target in self.weights:
            visit.best = max(visit.best, weight + self.weights[target])
        elif target not in self._places:
            self._enter(target, (visit.node, target, letter), weight)
        else:
            self._close(target)
            if weight > 0:
                self.rising = (visit.node, target, letter)

    def _close(self, target):
        """Bring all nodes from an open one on to the present one into one circle."""
        while self._places[self._heads[-1].node] > self._places[target]:
            head = self._heads.pop()
            if head.entry > 0:
                self.rising = head.ahead

    def _leave(self, visit):
        """End with a node, all edges of which were followed."""
        if self._heads[-1].node == visit.node:
            self._heads.pop()
            while visit.node not in self.weights:
                self.weights[self._open.pop()] = visit.best
        if self._visits:
            above = self._visits[-1]
            above.best = max(above.best, visit.entry + visit.best)
