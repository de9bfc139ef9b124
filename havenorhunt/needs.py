"""The needs of the three runners; for each count of searchers a plan that catches, or a paper."""

from havenorhunt.blockades import blockade
from havenorhunt.havens import haven
from havenorhunt.lines import best_line, line_need, plan_of_line
from havenorhunt.orders import best_order, order_need
from havenorhunt.plans import caught_at
from havenorhunt.rooms import hunt_of, plan_of, rooms_of


def need(graph, runner):
    """Return the need of a runner."""
    if runner == "unseen":
        return line_need(graph, best_line(graph))
    return order_need(graph, best_order(graph))


def best_plan(graph, runner):
    """Return a plan that catches and gives no ground, or a hunt that holds, with the least searchers."""
    if runner == "unseen":
        return plan_of_line(graph, best_line(graph))
    rooms = rooms_of(graph, best_order(graph))
    if runner == "lazy":
        return plan_of(rooms)
    return hunt_of(graph, rooms)


def decide(graph, count, runner):
    """Return ("caught", plan) if so many searchers are enough, otherwise ("free", paper)."""
    if need(graph, runner) <= count:
        return ("caught", best_plan(graph, runner))
    if runner == "seen":
        return ("free", haven(graph, count))
    return ("free", blockade(graph, count, runner))


def straighten(graph, plan, runner):
    """Return a plan that catches, gives no ground and needs no more searchers than a plan that catches.

    Raise NoCatch if the plan does not catch.
    """
    # Only for its NoCatch: whatever else the plan does, the best one does it with no more searchers.
    caught_at(graph, plan, runner)
    return best_plan(graph, runner)
