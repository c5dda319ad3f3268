"""Running rows for at most so many steps."""

from takeleave.errors import NoStep
from takeleave.steps import effect_of


def run(row, stack, most, book=None):
    """How a row goes from a stack: ended, on or fault, with the number of steps and the state."""
    things, todo = begun(row, stack)
    steps = 0
    while len(todo) > 0 and steps < most:
        if not advance(things, todo, book):
            return "fault", steps, state_of(things, todo)
        steps += 1
    ending = "ended" if len(todo) == 0 else "on"
    return ending, steps, state_of(things, todo)


def states(row, stack, most, book=None):
    """The states that a row comes to from a stack, from the first one on."""
    things, todo = begun(row, stack)
    passed = [state_of(things, todo)]
    while len(todo) > 0 and len(passed) <= most and advance(things, todo, book):
        passed.append(state_of(things, todo))
    return tuple(passed)


def begun(row, stack):
    """The lists that are changed step by step: things, the top last, and the words to do, the next one last."""
    return list(stack), list(row[::-1])


def advance(things, todo, book):
    """Do a step within the lists, and tell whether it could be done; of a fault nothing is changed."""
    try:
        taken, left, ahead = effect_of(todo[-1], things, book)
    except NoStep:
        return False
    todo.pop()
    todo.extend(ahead[::-1])
    del things[len(things) - taken:]
    things.extend(left)
    return True


def state_of(things, todo):
    """The state that the lists stand for."""
    return tuple(things), tuple(todo[::-1])
