"""Papers: what the checker confirms without searching."""

from ordersopen.asking import all_givens
from ordersopen.classes import class_of, classes, flip_path, least_order
from ordersopen.compare import apart
from ordersopen.flips import racing_of
from ordersopen.moments import moment_after, shown_key
from ordersopen.points import disagreement, fewest, remaining, wrong_classes
from ordersopen.results import result
from ordersopen.webs import Web


def agreement_paper(task):
    """Return an agree paper, or a differ paper if not all orders have one result."""
    found = disagreement(task)
    if found is not None:
        return ("differ", task.expression, task.points, *found)
    return ("agree", task.expression, task.points, list(classes(task)), result(task, least_order(task, ())))


def path_paper(task, one, other):
    """Return a path paper with the fewest flips from one class to another."""
    return ("path", task.expression, task.points, flip_path(task, one, other))


def fewest_paper(task):
    """Return a fewest paper whose chosen points are the fewest."""
    chosen = fewest(task)
    listed = list(classes(task.with_points(*chosen)))
    return ("fewest", task.expression, task.points, chosen, listed, too_few(task, len(chosen)))


def too_few(task, many):
    """List (smaller, flips) for each tuple of open nodes with one node less than so many.

    The class remains with these nodes as points, and its result is not that
    of the class ().
    """
    racing = racing_of(task)
    wrong = wrong_classes(task, racing)
    rows = []
    for smaller in choices(task.open_nodes(), many - 1):
        left = remaining(task, racing, smaller, wrong)
        rows.append((smaller, racing.flips_of(left[0])))
    return rows


def choices(nodes, many):
    """List all tuples of so many of these nodes, in their order; none if it is less than 0."""
    if many < 0:
        return []
    if many == 0:
        return [()]
    found = []
    for at, node in enumerate(nodes):
        found.extend([(node, *more) for more in choices(nodes[at + 1:], many - 1)])
    return found


def likeness_paper(one, other):
    """Return an alike paper, or an apart paper of the two tasks, in one of both orders."""
    found = apart(one, other)
    if found is None:
        lists = (list(classes(one)), list(classes(other)))
        return ("alike", one.expression, one.points, other.expression, other.points, *lists)
    which, order = found
    mine, theirs = (one, other) if which == 0 else (other, one)
    told = (mine.expression, mine.points, theirs.expression, theirs.points)
    return ("apart", *told, class_of(mine, order), list(classes(theirs)))


def guard_paper(task):
    """Return a calm paper, or a clash paper if in one of the cases not all runs have one result."""
    leaves = []
    for given in all_givens(task):
        web = Web(task, given)
        clash = web.find_clash()
        if clash is not None:
            return clash_paper(task, given, clash)
        leaves.append((list(given.items()), [shown_key(web.terms, key) for key in web.prefixes()]))
    return ("calm", task.expression, task.points, calm_tree(leaves, 0))


def clash_paper(task, given, clash):
    """Return the clash paper of a clash under these truths."""
    prefix, one, other = clash
    ends = [moment_after(task, given, (*prefix, *pair)).last() for pair in ((one, other), (other, one))]
    used = {**ends[0].used, **ends[1].used}
    return ("clash", task.expression, task.points, tuple(sorted(used.items())), prefix, one, other)


def calm_tree(leaves, depth):
    """Return the tree of these (asked, states), all of which have asked the same up to this depth."""
    asked, states = leaves[0]
    if len(asked) == depth:
        return ("states", states)
    no = [leaf for leaf in leaves if not leaf[0][depth][1]]
    yes = [leaf for leaf in leaves if leaf[0][depth][1]]
    return ("ask", asked[depth][0], calm_tree(no, depth + 1), calm_tree(yes, depth + 1))
