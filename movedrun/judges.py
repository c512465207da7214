"""The judge of pictures: whether a plain value is the picture of a heap that is sound."""

from movedrun.forms import GREATEST_INT, LEAST_INT, is_between, is_integer, is_tuple_of
from movedrun.heapforms import (
    BLACK, GREY, HEAD_WORDS, SIGNS, WHITE, age_told, are_roots, colour_told, is_link, is_size, kind_told,
    look_at_shapes, look_at_sizes
)


def is_sound(shapes, sizes, thing, roots):
    """Whether a thing is the picture of a heap of these shapes and sizes, and the roots are roots of it."""
    look_at_shapes(shapes)
    look_at_sizes(sizes)
    if not is_picture(thing):
        return False
    look = PictureLook(shapes, sizes, thing)
    return look.are_rooms_right() and look.is_held_right() and look.is_marking_right() and look.are_roots(roots)


def is_picture(thing):
    """Whether a thing has the form of a picture, whatever its words tell."""
    if not is_tuple_of(thing, 7):
        return False
    nursery, half, words, old, remembered, grey, marking = thing
    if not are_words(nursery) or not are_words(words) or not are_words(old):
        return False
    if not are_integers(remembered) or not are_integers(grey):
        return False
    return is_between(half, 0, 1) and isinstance(marking, bool)


def are_words(thing):
    if not isinstance(thing, tuple):
        return False
    for word in thing:
        if not is_between(word, LEAST_INT, GREATEST_INT):
            return False
    return True


def are_integers(thing):
    if not isinstance(thing, tuple):
        return False
    for number in thing:
        if not is_integer(number):
            return False
    return True


class PictureLook:
    """Finds all objects first: what the slots hold can be looked at only then."""

    def __init__(self, shapes, sizes, picture):
        self.shapes = shapes
        nursery, half, great, age = sizes
        self.nursery = nursery
        self.half_words = half
        self.great = great
        self.age = age
        self.picture = picture
        self.first_old = nursery + 2 * half + 1
        # The objects by their addresses: (kind, colour, slots' words).
        self.objects = {}

    def are_rooms_right(self):
        """Whether each room's words are objects side by side that may lie there."""
        nursery, half, words, old, _, _, _ = self.picture
        if len(nursery) > self.nursery or len(words) > self.half_words:
            return False
        first_of_half = self.nursery + half * self.half_words + 1
        return (
            self.is_room_right(nursery, 1, (0, 0), (WHITE,))
            and self.is_room_right(words, first_of_half, (1, self.age - 1), (WHITE,))
            and self.is_room_right(old, self.first_old, (0, 0), (WHITE, GREY, BLACK))
        )

    def is_room_right(self, words, first, ages, colours):
        """ages are the least and the greatest one there."""
        place = 0
        while place < len(words):
            if place + HEAD_WORDS > len(words):
                return False
            head = words[place]
            many = words[place + 1]
            if not self.is_head(head, many) or not ages[0] <= age_told(head) <= ages[1]:
                return False
            behind = place + HEAD_WORDS + many
            if colour_told(head) not in colours or behind > len(words):
                return False
            if first < self.first_old and HEAD_WORDS + many > self.great:
                return False
            self.objects[first + place] = (kind_told(head), colour_told(head), words[place + HEAD_WORDS:behind])
            place = behind
        return True

    def is_head(self, head, many):
        kind = kind_told(head)
        return SIGNS <= kind < len(self.shapes) and is_size(self.shapes, kind, many)

    def is_object(self, address):
        return address in self.objects

    def links(self):
        """(object's address, slot's address, what it holds) of all reference slots, by ascending addresses."""
        found = []
        for address in sorted(list(self.objects)):
            kind, _, body = self.objects[address]
            for slot, word in enumerate(body):
                if is_link(self.shapes, kind, slot):
                    found.append((address, address + HEAD_WORDS + slot, word))
        return found

    def is_held_right(self):
        """Whether reference slots hold 0 or objects, and just those that are remembered hold young ones in old ones."""
        remembered = []
        for address, place, word in self.links():
            if word != 0 and not self.is_object(word):
                return False
            if address >= self.first_old and 0 < word < self.first_old:
                remembered.append(place)
        return list(self.picture[4]) == remembered

    def is_marking_right(self):
        """Whether colours and the grey row are right for a heap at rest, or for one that is marking."""
        grey = self.picture[5]
        if not self.picture[6]:
            return grey == () and self.of_colour(WHITE) == sorted(list(self.objects))
        if sorted(list(grey)) != self.of_colour(GREY):
            return False
        for address, _, word in self.links():
            if self.colour(address) == BLACK and word >= self.first_old and self.colour(word) == WHITE:
                return False
        return True

    def colour(self, address):
        return self.objects[address][1]

    def of_colour(self, colour):
        """The addresses of the objects of a colour, ascending."""
        return sorted([address for address in self.objects if self.colour(address) == colour])

    def are_roots(self, roots):
        return are_roots(roots, self)
