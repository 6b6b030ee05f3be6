"""The losses of functions.

The loss of a node is a dict here: its keys are the indexes of the inputs that the node names, and only these can have
a loss greater than 0.
"""

from lowsure.folding import folded
from lowsure.nodes import Call, Choose, Half, Name, Raised
from lowsure.rows import bound_names, row_nodes


def greatest(losses):
    """The greatest of some losses, input by input; it names what any of them names."""
    found = {}
    for loss in losses:
        for at, number in loss.items():
            found[at] = max(found.get(at, 0), number)
    return found


def raised_by(loss, more):
    """The loss that is greater by a number for each input that is named."""
    return {at: number + more for at, number in loss.items()}


def part_loss(part, inner, bound, known):
    """The loss of a node from those of its own nodes."""
    if isinstance(part, Name):
        return bound[part.name]
    if isinstance(part, Half):
        return raised_by(inner[0], 1)
    if isinstance(part, Raised):
        return greatest([raised_by(inner[0], 1), inner[1]])
    if isinstance(part, Choose):
        return greatest([raised_by(inner[0], part.modulus.bit_length() - 1), inner[1], inner[2]])
    if isinstance(part, Call):
        return greatest([raised_by(loss, more) for loss, more in zip(inner, known[part.name])])
    return greatest(inner)


def node_loss(node, bound, known):
    """The loss of a node; `bound` are the losses of names, `known` those of the functions before."""
    return folded(node, lambda part, inner: part_loss(part, inner, bound, known))


def function_loss(function, known):
    """The loss of a function, a tuple."""
    bound = {name: {at: 0} for at, name in enumerate(function.inputs)}
    losses = []
    for row in function.rows:
        loss = greatest([node_loss(node, bound, known) for node in row_nodes(row)])
        for name in bound_names(row):
            bound[name] = loss
        losses.append(loss)
    losses.append(node_loss(function.result, bound, known))
    whole = greatest(losses)
    return tuple([whole.get(at, 0) for at in range(len(function.inputs))])
