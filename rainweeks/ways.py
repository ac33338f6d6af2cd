"""Ways: all states that steps can lead to, and the fewest steps that show something."""


def search(first, steps_of):
    """The states that steps lead to, and some shortest way to a step that shows something.

    steps_of(state) is the list of the steps from a state: triples (mark, whether it
    shows what is looked for, state behind). The states come as a dict of the (state,
    mark) from which each was reached first; these are all of them where nothing is
    shown. The way is the tuple of the marks of its steps, or None.
    """
    came = {first: None}
    layer = [first]
    while layer:
        next_layer = []
        for state in layer:
            for mark, is_shown, behind in steps_of(state):
                if is_shown:
                    return came, (*_marks_to(came, state), mark)
                if behind not in came:
                    came[behind] = (state, mark)
                    next_layer.append(behind)
        layer = next_layer
    return came, None


def _marks_to(came, state):
    """The marks of the steps by which a state was first reached."""
    marks = []
    while came[state] is not None:
        state, mark = came[state]
        marks.append(mark)
    return marks[::-1]
