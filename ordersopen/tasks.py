"""Tasks: an expression of a book, and the points at which its order is fixed."""

from ordersopen.errors import NoNode, NoPoints, TooMany
from ordersopen.expressions import are_points, is_open, is_open_path, node_at, nodes_of, text_of, with_node
from ordersopen.layout import Layout
from ordersopen.values import is_ascending


class Task:
    """An expression of a book, with points; nothing of it changes."""

    MOST_NODES = 200
    MOST_DEPTH = 30

    def __init__(self, book, expression, *, points=()):
        rows = nodes_of(book, expression)
        if len(rows) > Task.MOST_NODES:
            raise TooMany(Task.MOST_NODES)
        if max([len(path) + 1 for path, node in rows]) > Task.MOST_DEPTH:
            raise TooMany(Task.MOST_DEPTH)
        if not are_points(expression, points):
            raise NoPoints(points)
        self.book = book
        self.expression = expression
        self.points = points
        self.rows = tuple(rows)
        self.layout = Layout(book, expression, points)

    def nodes(self):
        """List the paths of all nodes in preorder."""
        return [path for path, node in self.rows]

    def node(self, path):
        """Return the expression with this path."""
        found = node_at(self.expression, path)
        if found is None:
            raise NoNode(path)
        return found

    def open_nodes(self):
        """List the paths of the open nodes that are no points; preorder is ascending."""
        return [path for path, node in self.rows if is_open(node) and path not in self.points]

    def with_points(self, *paths):
        """Return a task that has these points as well."""
        if not all([is_open_path(self.expression, path) for path in paths]):
            raise NoPoints(paths)
        points = tuple(sorted([*self.points, *paths]))
        if not is_ascending(points):
            raise NoPoints(paths)
        return Task(self.book, self.expression, points=points)

    def put(self, path, expression):
        """Return a task with another expression at a node, and with the points that still can be some."""
        if node_at(self.expression, path) is None:
            raise NoNode(path)
        bare = Task(self.book, with_node(self.expression, path, expression))
        kept = [point for point in self.points if is_open_path(bare.expression, point)]
        return bare.with_points(*kept)

    def __len__(self):
        return len(self.layout.steps)

    def __str__(self):
        return str(text_of(self.expression, (), self.points))

    def __repr__(self):
        return f"Task({len(self)} steps)"

    def __eq__(self, other):
        return (isinstance(other, Task) and self.book == other.book and self.expression == other.expression
                and self.points == other.points)
