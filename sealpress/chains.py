"""What a sheet stands over, what puts its blocks otherwise, and on which names it leans."""

from sealpress.errors import RingOver
from sealpress.pieces import all_in


def chain_of(book, name):
    """A list of the name, the one that its sheet stands over, and so on; refused with Unknown, RingOver."""
    chain = []
    link = name
    while link is not None:
        if link in chain:
            raise RingOver(chain[chain.index(link):])
        over = book.kept_sheet(link).over
        chain.append(link)
        link = over
    return chain


def bodies_of(book, name, block):
    """For each sheet of the chain that has the block its name and the block's pieces; refused as the chain is."""
    bodies = []
    for link in chain_of(book, name):
        blocks = book.kept_sheet(link).blocks()
        if block in blocks:
            bodies.append((link, blocks[block]))
    return bodies


def leans_straight(book, name):
    """The names that the sheet of a name stands over and draws; none where there is no sheet."""
    if name not in book.names():
        return []
    found = book.kept_sheet(name)
    drawn = [piece[1] for piece in all_in(found.pieces) if piece[0] == "draw"]
    return drawn if found.over is None else [found.over] + drawn


def leans_on(book, name):
    """The sorted list of the name and of all names that it leans on, in however many steps."""
    met = {name: True}
    ahead = [name]
    while ahead:
        link = ahead.pop()
        for other in leans_straight(book, link):
            if other not in met:
                met[other] = True
                ahead.append(other)
    return sorted(met)
