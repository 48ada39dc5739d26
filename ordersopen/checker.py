"""The checker: whether any value is a paper that shows what it says."""

from ordersopen.asking import are_truths
from ordersopen.doing import ending_of, shown
from ordersopen.errors import NoExpression, NoPoints, TooMany
from ordersopen.expressions import are_points
from ordersopen.flips import members, racing_of
from ordersopen.moments import first_moment
from ordersopen.orders import shuffles
from ordersopen.steps import is_race
from ordersopen.tasks import Task
from ordersopen.terms import Terms
from ordersopen.values import has_no_truth, is_ascending, is_integer
from ordersopen.webs import Web


def task_in(book, expression, points):
    """Return the task with these values; None if they make none."""
    try:
        return Task(book, expression, points=points)
    except (NoExpression, NoPoints, TooMany):
        return None


def bare_task_in(book, expression, points):
    """Return the task without guards with these values; None if they make none."""
    task = task_in(book, expression, points)
    return None if task is None or task.layout.guard is not None else task


def ending_in(task, racing, bits, terms):
    """Return what comes of a class."""
    return ending_of(task.layout, racing.least_order_of(bits), terms)


def endings_listed(task, value, terms):
    """Return a dict of all that comes of the classes that any value lists.

    It is None if the value is not a list of classes, each once, that has with
    each class all classes that come from it by a flip.
    """
    racing = racing_of(task)
    listed = bits_listed(racing, value)
    if listed is None or len(listed) == 0:
        return None
    known = {bits: True for bits in listed}
    if len(known) < len(listed):
        return None
    for bits in listed:
        if not all([bits ^ (1 << at) in known for at in members(racing.flippable_bits(bits))]):
            return None
    return {ending_in(task, racing, bits, terms): True for bits in listed}


def bits_listed(racing, value):
    """Return a list of the bits of the classes that any value lists; None if it lists none, or anything else."""
    if not isinstance(value, list):
        return None
    found = []
    for flips in value:
        bits = racing.bits_of(flips)
        if bits is None:
            return None
        found.append(bits)
    return found


def judge_agree(book, parts):
    """Judge (expression, points, classes, result)."""
    expression, points, listed, told = parts
    task = bare_task_in(book, expression, points)
    if task is None:
        return False
    terms = Terms()
    endings = endings_listed(task, listed, terms)
    if endings is None or len(endings) > 1:
        return False
    return shown(terms, list(endings)[0]) == told and has_no_truth(told)


def judge_differ(book, parts):
    """Judge (expression, points, flips, pair)."""
    expression, points, flips, pair = parts
    task = bare_task_in(book, expression, points)
    if task is None:
        return False
    racing = racing_of(task)
    bits = racing.bits_of(flips)
    at = racing.index_of(pair)
    if bits is None or at is None or not (racing.flippable_bits(bits) >> at) & 1:
        return False
    terms = Terms()
    return ending_in(task, racing, bits, terms) != ending_in(task, racing, bits ^ (1 << at), terms)


def judge_path(book, parts):
    """Judge (expression, points, classes)."""
    expression, points, listed = parts
    task = bare_task_in(book, expression, points)
    if task is None:
        return False
    path = bits_listed(racing_of(task), listed)
    if path is None or len(path) == 0:
        return False
    flips = [path[at] ^ path[at + 1] for at in range(len(path) - 1)]
    # Each of them has just one bit, and no bit is in two of them.
    return all([flip > 0 and flip & (flip - 1) == 0 for flip in flips]) and is_ascending(sorted(flips))


def are_new_points(task, value):
    """Tell whether any value is an ascending tuple of open nodes that are no points."""
    return are_points(task.expression, value) and not any([path in task.points for path in value])


def judge_fewest(book, parts):
    """Judge (expression, points, chosen, classes, rows)."""
    expression, points, chosen, listed, rows = parts
    task = bare_task_in(book, expression, points)
    if task is None or not are_new_points(task, chosen):
        return False
    endings = endings_listed(task.with_points(*chosen), listed, Terms())
    return endings is not None and len(endings) == 1 and are_too_few(task, len(chosen), rows)


def are_too_few(task, many, rows):
    """Tell whether any value shows of all tuples with one node less than so many that they are too few."""
    smaller = many - 1
    wanted = shuffles([smaller, len(task.open_nodes()) - smaller]) if many > 0 else 0
    if not isinstance(rows, list) or len(rows) != wanted or not all([is_too_few(task, smaller, row) for row in rows]):
        return False
    return is_ascending([row[0] for row in rows])


def is_too_few(task, many, row):
    """Tell whether any value is a tuple of so many nodes, and a class that remains and has another result than ()."""
    if not is_pair(row):
        return False
    smaller, flips = row
    if not are_new_points(task, smaller) or len(smaller) != many:
        return False
    # A class remains with some points exactly if it is a class of the task with these points.
    fixed = task.with_points(*smaller)
    racing = racing_of(fixed)
    bits = racing.bits_of(flips)
    terms = Terms()
    return bits is not None and ending_in(fixed, racing, bits, terms) != ending_in(fixed, racing, 0, terms)


def judge_alike(book, parts):
    """Judge (expression, points, other, other_points, ones, others)."""
    expression, points, other_expression, other_points, ones, others = parts
    task = bare_task_in(book, expression, points)
    other = bare_task_in(book, other_expression, other_points)
    if task is None or other is None:
        return False
    terms = Terms()
    endings = endings_listed(task, ones, terms)
    return endings is not None and endings == endings_listed(other, others, terms)


def judge_apart(book, parts):
    """Judge (expression, points, other, other_points, flips, others)."""
    expression, points, other_expression, other_points, flips, others = parts
    task = bare_task_in(book, expression, points)
    other = bare_task_in(book, other_expression, other_points)
    if task is None or other is None:
        return False
    terms = Terms()
    racing = racing_of(task)
    bits = racing.bits_of(flips)
    endings = endings_listed(other, others, terms)
    return bits is not None and endings is not None and ending_in(task, racing, bits, terms) not in endings


def judge_calm(book, parts):
    """Judge (expression, points, tree)."""
    expression, points, tree = parts
    task = task_in(book, expression, points)
    if task is None:
        return False
    waiting = [(tree, {})]
    while len(waiting) > 0:
        one, given = waiting.pop()
        if is_ask(one) and one[1] not in given:
            waiting.extend([(one[2], {**given, one[1]: False}), (one[3], {**given, one[1]: True})])
        elif not is_states(one) or not are_calm(Web(task, given), one[1]):
            return False
    return True


def is_ask(value):
    """Tell whether any value is ("ask", text, no, yes), whatever the last two are."""
    return isinstance(value, tuple) and len(value) == 4 and value[0] == "ask" and isinstance(value[1], str)


def is_states(value):
    """Tell whether any value is ("states", list)."""
    return isinstance(value, tuple) and len(value) == 2 and value[0] == "states" and isinstance(value[1], list)


def are_calm(web, states):
    """Tell whether these are all states of a web, each once, no run of it asks, and all have one result."""
    known = web.states_up_to(len(states))
    if known is None or len(known) < len(states):
        return False
    listed = {}
    for state in states:
        key = key_in(web.terms, state)
        if key is None or key not in known or key in listed:
            return False
        listed[key] = True
    return len(web.least_runs()) == 1


def key_in(terms, value):
    """Return the key of any value, if it is of the form of a state, otherwise None."""
    if not is_pair(value) or not all([isinstance(rows, tuple) for rows in value]):
        return None
    values, contents = value
    if not all([is_pair(row) and is_integer(row[0]) for row in values]):
        return None
    if not all([is_pair(row) and isinstance(row[0], str) for row in contents]):
        return None
    known = [(step, -1 if told == () else terms.number_of(told)) for step, told in values]
    return tuple(known), tuple([(place, terms.number_of(told)) for place, told in contents])


def is_pair(value):
    """Tell whether any value is a tuple of two items."""
    return isinstance(value, tuple) and len(value) == 2


def judge_clash(book, parts):
    """Judge (expression, points, truths, prefix, one, other)."""
    expression, points, truths, prefix, one, other = parts
    task = task_in(book, expression, points)
    if task is None or not are_truths(truths) or not isinstance(prefix, tuple):
        return False
    moment = moment_behind(first_moment(task, dict(truths)), prefix)
    if moment is None or moment_behind(moment, (one,)) is None or moment_behind(moment, (other,)) is None:
        return False
    if one >= other or not is_race(task.layout, one, other):
        return False
    ends = []
    for steps in ((one, other), (other, one)):
        behind = moment_behind(moment, steps)
        if behind is None or not behind.last().has_ended():
            return False
        ends.append(behind.last())
    # Nothing is asked beyond the truths; if some of them were not asked, less is used.
    used = {**ends[0].used, **ends[1].used}
    return len(used) == len(truths) and ends[0].doing.ending() != ends[1].doing.ending()


def moment_behind(moment, steps):
    """Return the moment behind any values; None if they are not ready steps, each in its turn."""
    for step in steps:
        if not is_integer(step) or step not in moment.free:
            return None
        moment = moment.after(step)
    return moment


JUDGES = {
    "agree": judge_agree, "differ": judge_differ, "path": judge_path, "fewest": judge_fewest, "alike": judge_alike,
    "apart": judge_apart, "calm": judge_calm, "clash": judge_clash,
}
PARTS = {"agree": 4, "differ": 4, "path": 3, "fewest": 5, "alike": 6, "apart": 6, "calm": 3, "clash": 6}


def holds(book, value):
    """Tell whether any value is a paper that shows what it says."""
    if not isinstance(value, tuple) or len(value) == 0 or not isinstance(value[0], str):
        return False
    if PARTS.get(value[0], -1) != len(value) - 1:
        return False
    judge = JUDGES[value[0]]
    return judge(book, value[1:])
