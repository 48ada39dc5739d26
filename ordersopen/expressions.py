"""Expressions: their forms, nodes, paths and texts."""

from ordersopen.errors import NoExpression
from ordersopen.functions import is_name
from ordersopen.values import is_ascending, is_integer

LARGEST = 999999
SIGNS = ("+", "-", "*", "<")
LENGTHS = {"read": 2, "store": 3, "step": 4, "op": 4, "call": 3, "then": 3, "and": 3, "or": 3, "choose": 4}
FIRST_OPERANDS = {"read": 2, "store": 2, "step": 4, "op": 2, "then": 1, "and": 1, "or": 1, "choose": 1}
OWN_STEPS = {"read": ("read",), "store": ("store",), "step": ("read", "store"), "call": ("call",)}
GUARDS = ("and", "or", "choose")


def is_form(book, value):
    """Tell whether any value is of a form of expressions, whatever its operands are."""
    if is_integer(value):
        return 0 <= value <= LARGEST
    if not isinstance(value, tuple) or len(value) == 0 or not isinstance(value[0], str):
        return False
    if LENGTHS.get(value[0], 0) != len(value):
        return False
    if value[0] in ("read", "store"):
        return is_name(value[1])
    if value[0] == "step":
        return is_name(value[1]) and is_change(value[2]) and value[3] in ("before", "after")
    if value[0] == "op":
        return value[1] in SIGNS
    if value[0] == "call":
        return is_call(book, value[1], value[2])
    return True


def is_change(value):
    """Tell whether any value is what a `step` node can add."""
    return is_integer(value) and value in (1, -1)


def is_call(book, name, arguments):
    """Tell whether any two values are a function of the book and as many arguments as it has."""
    return name in book and isinstance(arguments, tuple) and len(arguments) == book[name].arguments


def operands(node):
    """Return the tuple of the operands of a node that is of a form itself."""
    if is_integer(node):
        return ()
    if node[0] == "call":
        return node[2]
    return node[FIRST_OPERANDS[node[0]]:]


def nodes_of(book, value):
    """List (path, node) for all nodes in preorder; raise NoExpression at the first that is of no form.

    The nodes that wait stand in a list of their own, as any value may be
    nested deeper than a task.
    """
    rows = []
    waiting = [((), value)]
    while len(waiting) > 0:
        path, node = waiting.pop()
        if not is_form(book, node):
            raise NoExpression(path)
        rows.append((path, node))
        below = [((*path, at), operand) for at, operand in enumerate(operands(node))]
        waiting.extend(below[::-1])
    return rows


def node_at(expression, path):
    """Return the node of an expression with this path; None if any value is not the path of one."""
    if not isinstance(path, tuple):
        return None
    node = expression
    for at in path:
        below = operands(node)
        if not is_integer(at) or not 0 <= at < len(below):
            return None
        node = below[at]
    return node


def with_node(expression, path, node):
    """Return the expression with another node at the path of one."""
    if len(path) == 0:
        return node
    at = path[0]
    below = operands(expression)
    changed = (*below[:at], with_node(below[at], path[1:], node), *below[at + 1:])
    if expression[0] == "call":
        return (expression[0], expression[1], changed)
    return (*expression[:FIRST_OPERANDS[expression[0]]], *changed)


def is_open(node):
    """Tell whether a node is an open node: an `op`, or a call with at least two arguments."""
    if is_integer(node):
        return False
    return node[0] == "op" or (node[0] == "call" and len(node[2]) >= 2)


def is_guard(node):
    """Tell whether a node is a guard."""
    return not is_integer(node) and node[0] in GUARDS


def is_open_path(expression, value):
    """Tell whether any value is the path of an open node."""
    node = node_at(expression, value)
    return node is not None and is_open(node)


def are_points(expression, value):
    """Tell whether any value is an ascending tuple of paths of open nodes."""
    if not isinstance(value, tuple):
        return False
    return all([is_open_path(expression, path) for path in value]) and is_ascending(value)


def own_steps(node):
    """Return the kinds of the steps of a node, without those of its operands."""
    if is_integer(node):
        return ()
    return OWN_STEPS.get(node[0], ())


def text_of(node, path, points):
    """Return the text of a node with this path."""
    if is_integer(node):
        return str(node)
    below = [text_of(operand, (*path, at), points) for at, operand in enumerate(operands(node))]
    if node[0] == "read":
        return node[1]
    if node[0] == "store":
        return f"({node[1]} = {below[0]})"
    if node[0] == "step":
        return step_text(node[1], node[2], node[3])
    if node[0] == "op":
        return op_text(node[1], below, path in points)
    if node[0] == "call":
        return call_text(node[1], below, path in points)
    if node[0] == "then":
        return f"({below[0]}, {below[1]})"
    if node[0] == "and":
        return f"({below[0]} && {below[1]})"
    if node[0] == "or":
        return f"({below[0]} || {below[1]})"
    return f"({below[0]} ? {below[1]} : {below[2]})"


def step_text(place, by, when):
    """Return the text of a `step` node."""
    sign = "++" if by == 1 else "--"
    return f"{sign}{place}" if when == "before" else f"{place}{sign}"


def op_text(sign, below, is_point):
    """Return the text of an `op` with the texts of its operands."""
    if is_point:
        return f"({below[0]} {sign}; {below[1]})"
    return f"({below[0]} {sign} {below[1]})"


def call_text(name, below, is_point):
    """Return the text of a call with the texts of its arguments."""
    inside = "; ".join(below) if is_point else ", ".join(below)
    return f"{name}({inside})"
