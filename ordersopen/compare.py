"""Whether two tasks without guards have the same results."""

from ordersopen.endings import least_orders
from ordersopen.errors import Unlike
from ordersopen.layout import refuse_guards
from ordersopen.terms import Terms


def apart(one, other):
    """Return (which, order): which task, 0 or 1, has a result that the other has not, and its least such order.

    None if the tasks are alike.
    """
    refuse_guards(one)
    refuse_guards(other)
    if one.book != other.book:
        raise Unlike()
    # The same terms have the same numbers in both tasks, as these are kept together.
    terms = Terms()
    ones = least_orders(one, terms)
    others = least_orders(other, terms)
    for which, mine, theirs in ((0, ones, others), (1, others, ones)):
        for ending, order in mine.items():
            if ending not in theirs:
                return which, order
    return None
