"""Shapes of terms: where parts begin in the order of nodes, and which binders' variables are used."""

from kernelstack.terms import parts


class Shape:
    """How many nodes the part at each place has, and the places of the binders whose variable is used.

    Places are those of nodes, outer ones first, in order.
    """

    def __init__(self, term):
        self.sizes = []
        self.used = {}
        nodes = []
        # The places of the binders around what is looked at, the outermost first.
        around = []
        waiting = [(term, 0, None)]
        while waiting:
            node, depth, binder = waiting.pop()
            if binder is not None:
                del around[depth - 1:]
                around.append(binder)
            if node[0] == "var" and node[1] < depth:
                self.used[around[depth - 1 - node[1]]] = True
            for part, under in reversed(parts(node)):
                waiting.append((part, depth + under, len(nodes) if under else None))
            nodes.append(node)
        self.count(nodes)

    def count(self, nodes):
        """Keep how many nodes the part at each place has."""
        self.sizes = [1] * len(nodes)
        done = []
        for place in reversed(range(len(nodes))):
            for _ in parts(nodes[place]):
                self.sizes[place] += done.pop()
            done.append(self.sizes[place])

    def places_of(self, place, many):
        """Return the places of so many parts of the node at a place."""
        found = [place + 1]
        for _ in range(many - 1):
            found.append(found[-1] + self.sizes[found[-1]])
        return found
