"""Going through nodes from the inside to the outside, without recursion."""


def folded(node, combine):
    """What a function gives for a node, of which it is told what it gave for the node's own nodes, in order."""
    done = []
    parts = list(node.parts())
    for part in reversed(parts):
        inner = []
        for _ in part._nodes():
            inner.append(done.pop())
        done.append(combine(part, inner))
    return done[0]
