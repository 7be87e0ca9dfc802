"""The walks in graphs that the questions of stages 9 to 11 rest on."""

import random
import unittest

from reflows.walks import END, Heaviest, heaviest_way, ring_of, way_to, ways_from


class Drawn:
    """A graph of the nodes from 1 on, with drawn edges; the letter of an edge is a number of its own."""

    def __init__(self, chooser, many, edges, share):
        self.all_edges = []
        for letter in range(edges):
            weight = chooser.choice([1, 2]) if chooser.random() < share else 0
            self.all_edges.append((chooser.randint(1, many), weight, chooser.randint(0, many), letter))
        self.nodes = list(range(1, many + 1))

    def edges(self, node):
        """Return the edges from a node."""
        assert node != END
        return [(weight, target, letter) for source, weight, target, letter in self.all_edges if source == node]

    def followed(self, node, letters):
        """Return the weight of a walk and the node in which it ends."""
        total = 0
        for letter in letters:
            source, weight, target, _ = self.all_edges[letter]
            assert source == node
            total, node = total + weight, target
        return total, node

    def reached(self, nodes):
        """Return the nodes that are come to, with the least numbers of letters."""
        far = {node: 0 for node in nodes}
        for _ in self.nodes + [END]:
            for source, _, target, _ in self.all_edges:
                if source in far and far[source] + 1 < far.get(target, 99):
                    far[target] = far[source] + 1
        return far

    def weights(self, nodes):
        """Return the weights of the heaviest walks of up to many letters, and whether longer ones weigh more."""
        best = {node: 0 for node in self.reached(nodes)}
        rounds = []
        for _ in range(2 * len(self.nodes) + 3):
            for source, weight, target, _ in self.all_edges:
                if source in best:
                    best[source] = max(best[source], weight + best[target])
            rounds.append(dict(best))
        return best, rounds[-1] != rounds[-2]


def drawn_graphs(many):
    """Yield so many graphs and some nodes of each; some graphs have no ring on which weights are gained."""
    chooser = random.Random(many)
    for number in range(many):
        size = chooser.randint(1, 8)
        graph = Drawn(chooser, size, chooser.randint(0, 2 * size), [0.05, 0.2, 0.5][number % 3])
        yield graph, chooser.sample(graph.nodes, chooser.randint(1, min(size, 3)))


class WaysTest(unittest.TestCase):
    def test_shortest_ways(self):
        for graph, nodes in drawn_graphs(300):
            far = graph.reached(nodes)
            # No node has this number: so all that can be come to is.
            ways = ways_from(graph, nodes, -1)
            self.assertEqual(set(ways), set(far))
            for node in far:
                start, letters = way_to(ways, node)
                self.assertIn(start, nodes)
                self.assertEqual([graph.followed(start, letters)[1], len(letters)], [node, far[node]])
                goal = way_to(ways_from(graph, nodes, node), node)[1]
                self.assertEqual(len(goal), far[node])

    def test_a_node_that_is_not_come_to(self):
        graph = Drawn(random.Random(1), 3, 0, 0)
        self.assertEqual(ways_from(graph, [1], 2), {1: None})


class HeaviestTest(unittest.TestCase):
    def test_weights_and_rings(self):
        seen = []
        for graph, nodes in drawn_graphs(1200):
            heaviest = Heaviest(graph, nodes)
            weights, rises = graph.weights(nodes)
            seen.append(rises)
            self.assertIs(heaviest.rising is not None, rises, (graph.all_edges, nodes))
            if rises:
                self.check_ring(graph, heaviest.rising, weights)
                continue
            self.assertEqual({**heaviest.weights, END: 0}, {**weights, END: 0})
            for node in weights:
                if node != END:
                    self.assertEqual(graph.followed(node, heaviest_way(graph, weights, node))[0], weights[node])
        self.assertGreater(min(seen.count(True), seen.count(False)), 200)

    def check_ring(self, graph, rising, reached):
        """Check that a ring begins with an edge and gains some weight."""
        node, target, letter = rising
        letters = ring_of(graph, rising)
        self.assertEqual([letters[0], graph.all_edges[letter][2]], [letter, target])
        total, behind = graph.followed(node, letters)
        self.assertEqual(behind, node)
        self.assertGreater(total, 0)
        self.assertIn(node, reached)

    def test_a_ring_whose_only_weight_is_not_on_its_last_edge(self):
        for weights in ((1, 0, 0), (0, 1, 0), (0, 0, 1)):
            graph = Drawn(random.Random(1), 3, 0, 0)
            graph.all_edges = [(1, weights[0], 2, 0), (2, weights[1], 3, 1), (3, weights[2], 1, 2)]
            for node in (1, 2, 3):
                self.check_ring(graph, Heaviest(graph, [node]).rising, {1: 0, 2: 0, 3: 0})

    def test_deep_graphs(self):
        # No search goes deeper than Python's own calls can.
        many = 20000
        graph = Drawn(random.Random(1), many, 0, 0)
        graph.edges = lambda node: [(node % 2, node + 1 if node < many else END, node)]
        heaviest = Heaviest(graph, [1])
        self.assertEqual([heaviest.rising, heaviest.weights[1]], [None, many // 2])


if __name__ == "__main__":
    unittest.main()
