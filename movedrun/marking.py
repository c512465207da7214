"""Whole collections: objects of the old room are marked slice by slice, and those that are left slid together."""

from movedrun.heapforms import BLACK, GREY, WHITE, colour_told
from movedrun.moving import move_young


def begin_marking(memory, roots):
    """The roots behind the beginning."""
    roots = move_young(memory, roots, True)
    memory.marks = True
    memory.grey = []
    memory.done = 0
    for root in roots:
        memory.shade(root)
    return roots


def is_grey_left(memory):
    return memory.done < len(memory.grey)


def blacken_first(memory):
    """The first object leaves the grey row, and what it holds is shaded."""
    address = memory.grey[memory.done]
    memory.done += 1
    memory.words[address] += BLACK - GREY
    for place in memory.link_places(address):
        memory.shade(memory.words[place])


def blacken_all(memory):
    while is_grey_left(memory):
        blacken_first(memory)


def end_marking(memory, roots):
    """The roots behind the end."""
    roots = move_young(memory, roots, True)
    for root in roots:
        memory.shade(root)
    blacken_all(memory)
    memory.marks = False
    memory.grey = []
    memory.done = 0
    memory.ended[2] += 1
    return slide(memory, roots)


def slide(memory, roots):
    """Lays the black objects side by side, white; nothing is young."""
    places = new_places(memory)
    words = []
    for address in places:
        first = len(words)
        words.extend(memory.words[address:address + memory.size(address)])
        words[first] += WHITE - BLACK
        for place in memory.link_places(address):
            words[place - address + first] = places.get(memory.words[place], 0)
    memory.words[memory.first_old:] = words
    memory.old = {address: True for address in places.values()}
    return tuple([places.get(root, 0) for root in roots])


def new_places(memory):
    """By the addresses of the black objects, ascending: their addresses behind the sliding."""
    places = {}
    free = memory.first_old
    for address in memory.old:
        if colour_told(memory.words[address]) == BLACK:
            places[address] = free
            free += memory.size(address)
    return places
