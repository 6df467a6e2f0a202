"""Plans of orders over days, with papers that no plan leaves fewer turns."""

from phialhouse.orders import left_by, orders_within, price


def planned(orders, turns):
    plan = plan_of(orders, turns)
    left = left_by(orders, plan)
    return (plan, left, paper_of_days(crowded_days(orders, plan, left)))


# Each day serves first whoever has the least time left. No plan does better, as each paper shows.
def plan_of(orders, turns):
    lacking = {}
    for name, first, last, many in orders:
        lacking[name] = many
    by_last_days = sorted(orders, key=lambda order: order[2])
    plan = []
    for day, free in enumerate(turns):
        names = []
        for name, first, last, many in by_last_days:
            if first <= day <= last:
                served = min(lacking[name], free - len(names))
                names.extend([name] * served)
                lacking[name] -= served
        plan.append(sorted(names))
    return plan


# From an order that lacks turns one comes to all its days, from a day to all orders that have turns there, and so on.
# All these days are full, and by orders that lie wholly in them: so what lacks could be had nowhere else.
def crowded_days(orders, plan, left):
    days = {}
    seen = {}
    waiting = [name for name, lacking in left]
    while waiting != []:
        name = waiting.pop()
        if name not in seen:
            seen[name] = True
            for day in days_of(orders, name):
                if day not in days:
                    days[day] = True
                    waiting.extend(plan[day])
    return sorted(days)


def days_of(orders, name):
    for other, first, last, many in orders:
        if other == name:
            return list(range(first, last + 1))
    return []


# Days right behind one another are one part of the paper.
def paper_of_days(days):
    paper = []
    for day in days:
        if paper != [] and paper[-1][1] == day - 1:
            paper[-1] = (paper[-1][0], day)
        else:
            paper.append((day, day))
    return paper


def crowded(orders, turns):
    for low, high in planned(orders, turns)[2]:
        if price(orders, turns, [(low, high)]) > 0:
            return (low, high, sorted([order[0] for order in orders_within(orders, low, high)]))
    return None
