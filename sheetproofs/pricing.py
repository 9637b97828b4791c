"""Weights, fractions, with which rows sum to a row at the least price.

A weight costs its size times the price of its row. The search goes from corner to corner of what is
possible. At a corner all weights but those of the leads are zero, and an equation for each lead tells
its weight: it has the sign of the weight at its lead, zero at the other leads, and the size of the
weight at its end.
"""

from sheetproofs.ranks import equations_for, product_sum


def is_less(one, other):
    """Tell whether one fraction is less than another."""
    return one[0] * other[1] < other[0] * one[1]


def size_of(fraction):
    """Return a fraction without its minus."""
    return abs(fraction[0]), fraction[1]


def _row_times(field, row, factor):
    """Return the row multiplied by a number."""
    return [field.times(factor, number) for number in row]


def _row_less(field, row, other):
    """Return the row less the other row."""
    return [field.less(number, taken) for number, taken in zip(row, other)]


def _told(field, corner, prices, place):
    """Return what the weights of the leads would cost less if the weight at the place were one more."""
    equations, leads = corner
    return product_sum(field, [prices[lead] for lead in leads], [equation[place] for equation in equations])


def _place_to_enter(field, corner, prices):
    """Return the first place where another weight makes the sum cheaper, and the sign of it, or None."""
    for place, price in enumerate(prices):
        told = _told(field, corner, prices, place)
        if is_less(price, size_of(told)):
            return place, field.one if told[0] > 0 else field.minus_one
    return None


def _index_to_leave(field, corner, place, sign):
    """Return the index of the lead whose weight comes to zero first, the least lead of several."""
    equations, leads = corner
    best = None
    for index, equation in enumerate(equations):
        factor = field.times(sign, equation[place])
        if factor[0] > 0:
            key = (field.quotient(equation[-1], factor), leads[index])
            if best is None or is_less(key[0], best[0]) or (key[0] == best[0] and key[1] < best[1]):
                best = key
    return leads.index(best[1])


def _next_corner(field, corner, place, sign):
    """Return the corner at which the place is a lead instead of the one that leaves."""
    equations, leads = corner
    index = _index_to_leave(field, corner, place, sign)
    factor = field.quotient(sign, equations[index][place])
    entered = _row_times(field, equations[index], factor)
    changed = []
    for at, equation in enumerate(equations):
        if at == index:
            changed.append(entered)
        else:
            taken = _row_times(field, entered, field.times(sign, equation[place]))
            changed.append(_row_less(field, equation, taken))
    return changed, [place if at == index else lead for at, lead in enumerate(leads)]


def cheapest_corner(field, rows, row, prices):
    """Return a corner with the least price, equations and leads, or None if no weights make the row.

    The prices are fractions above zero, and the field is that of the fractions.
    """
    found = equations_for(field, rows, row)
    if found is None:
        return None
    equations = [_row_times(field, equation, field.minus_one) if equation[-1][0] < 0 else equation
                 for equation in found[0]]
    corner = (equations, found[1])
    entering = _place_to_enter(field, corner, prices)
    # The first place that can enter and the least lead that can leave: this way no corner comes twice.
    while entering is not None:
        place, sign = entering
        corner = _next_corner(field, corner, place, sign)
        entering = _place_to_enter(field, corner, prices)
    return corner


def weights_at(field, corner, many):
    """Return the weights at a corner."""
    equations, leads = corner
    weights = [field.zero] * many
    for equation, lead in zip(equations, leads):
        weights[lead] = field.times(equation[lead], equation[-1])
    return tuple(weights)
