"""Choices, which are ascending tuples of places, and the search for the least good ones."""


def has_part(choice, others):
    """Tell whether one of the other choices has no place that is not in the choice."""
    return any([all([place in choice for place in other]) for other in others])


def _longer_choices(choices, many, step):
    """Return the choices with one more place behind their last one, and their states where these are not None."""
    longer = []
    for choice, state in choices:
        start = choice[-1] + 1 if choice else 0
        for place in range(start, many):
            reached = step(state, place)
            if reached is not None:
                longer.append((choice + (place,), reached))
    return longer


def least_good_choices(many, first, step, is_good):
    """Return the least good choices out of so many places, by size and then in their order.

    A choice is judged by its state: first for (), else what step makes of the state of the choice without
    its last place and of this place. Behind the state None no choice is good.
    """
    least = []
    level = [((), first)]
    while level:
        others = []
        for choice, state in level:
            # All least choices of fewer places are known here.
            if has_part(choice, least):
                continue
            if is_good(state):
                least.append(choice)
            else:
                others.append((choice, state))
        level = _longer_choices(others, many, step)
    return tuple(least)
