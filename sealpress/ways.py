"""Ways through laid pieces, and places on them: a tuple of a list of turns and how many things are met."""

from sealpress.steps import begin, floored, run


def branches_of(piece):
    """The two lists of pieces by which an each or an if can be gone, by their turns."""
    return ([], piece[2]) if piece[0] == "each" else (piece[2], piece[3])


def walked(pieces, place):
    """A list of the things met on the way to a place."""
    things = []
    # what is still to be met, the nearest last; and the turns not yet taken, the nearest last
    ahead = pieces[::-1]
    turns = place[0][::-1]
    while ahead and len(things) < place[1]:
        piece = ahead.pop()
        if piece[0] == "seat":
            things.append(("into", piece[1], piece[2], piece[3]))
            ahead.append(("out",))
            ahead.extend(piece[4][::-1])
        elif piece[0] not in ("each", "if"):
            things.append(piece)
        elif turns:
            ahead.extend(branches_of(piece)[turns.pop()][::-1])
        else:
            break
    return things


def state_at(pieces, place):
    """The reader's state at a place."""
    state = begin()
    # the open boxes that are put aside by each seat around, the outermost seat first
    aside = []
    for thing in walked(pieces, place):
        if thing[0] == "lit":
            state = run(state, thing[1])[0]
        elif thing[0] == "into":
            aside.append(state[2])
            state = floored(state)
        elif thing[0] == "out":
            state = (state[0], state[1], aside.pop() + state[2], state[3])
    return state
