"""Words of lies, as plain tuples: how they are judged, crossed, hung one below the other, and unwound."""

from freestrung.forms import is_row, is_whole
from freestrung.words import back, joined, linked, reduced

MOST_CORDS = 6
MOST_LETTERS = 2000
WAYS = ("before", "behind")


def other_way(way):
    """The way that undoes a way."""
    return "behind" if way == "before" else "before"


def straight_words(cords):
    """The words of the straight lie."""
    return tuple((number + 1,) for number in range(cords))


def letters_in(words):
    """The number of all letters."""
    return sum([len(word) for word in words])


def are_words(thing):
    """Whether a thing is a tuple of so many words as a lie can have, of letters for so many cords."""
    if not is_row(thing) or len(thing) > MOST_CORDS:
        return False
    return all([is_word(word, len(thing)) for word in thing])


def is_word(thing, cords):
    """Whether a thing is a tuple of letters for so many cords."""
    if not is_row(thing):
        return False
    return all([is_whole(letter) and 1 <= abs(letter) <= cords for letter in thing])


def kept_words(words):
    """The words as tuples."""
    return tuple(tuple(word) for word in words)


def leads_up(word):
    """Whether a word is one that leads around others up to a place above, and the same way back."""
    half = len(word) // 2
    if len(word) != 2 * half + 1 or word[half] < 0 or reduced(word) != word:
        return False
    return word[half + 1:] == back(word[:half])


def middles(words):
    """The middle letter of each word."""
    return tuple(word[len(word) // 2] for word in words)


def fault_in(words):
    """The place of the first word that no lie can have; their number if they are no lie; or None."""
    for place, word in enumerate(words):
        if not leads_up(word):
            return place
    different = len(set(middles(words))) == len(words)
    if different and joined(*words) == tuple(range(1, len(words) + 1)):
        return None
    return len(words)


def crossed_below(words, place, way):
    """The words when the puppets at a place and the next one are crossed."""
    left, right = words[place:place + 2]
    if way == "before":
        pair = (linked(linked(left, right), back(left)), left)
    else:
        pair = (right, linked(linked(back(right), left), right))
    return words[:place] + pair + words[place + 2:]


def spelled(word, images):
    """The word in which each letter is replaced by its image."""
    letters = []
    for letter in word:
        letters.extend(images[letter])
    return reduced(letters)


def hung_below(words, lower):
    """The words of the product: each letter of the lower words replaced by a word of the upper ones."""
    images = {}
    for number, word in enumerate(words):
        images[number + 1] = word
        images[-number - 1] = back(word)
    return tuple([spelled(word, images) for word in lower])


def crossed_above(words, place, way):
    """The words when the bars at a place and the next one are crossed."""
    # To cross above is to hang the lie below the crossing that undoes this one.
    return hung_below(crossed_below(straight_words(len(words)), place, other_way(way)), words)


def first_easing(words):
    """The first crossing below that leaves fewer letters."""
    for place in range(len(words) - 1):
        for way in WAYS:
            if letters_in(crossed_below(words, place, way)) < letters_in(words):
                return place, way
    return None


def unwinding_row(words):
    """The crossings below that unwind a lie, one after the other."""
    row = []
    straight = straight_words(len(words))
    while words != straight:
        place, way = first_easing(words)
        words = crossed_below(words, place, way)
        row.append((place, way))
    return row


def back_words(words):
    """The words of the lie whose product with this one is straight."""
    # Built from the straight end, all lies on the way are backs of lies with fewer letters than this
    # one; so none of them can grow much beyond what the result has.
    row = unwinding_row(words)
    undone = straight_words(len(words))
    for place, way in row[::-1]:
        undone = crossed_above(undone, place, other_way(way))
    return undone


def thinned_words(words, places):
    """The words of the lie of some cords alone, told by their places above, ascending."""
    numbers = {}
    for number, place in enumerate(places):
        numbers[place + 1] = number + 1
        numbers[-place - 1] = -number - 1
    staying = [word for word in words if word[len(word) // 2] in numbers]
    return tuple([reduced([numbers[letter] for letter in word if letter in numbers]) for word in staying])


def set_off(words, cords):
    """The words with all letters set off by a number of cords."""
    return tuple([tuple([letter + cords if letter > 0 else letter - cords for letter in word]) for word in words])


def mirrored_words(words):
    """The words with left and right exchanged."""
    beyond = len(words) + 1
    return tuple([
        tuple([beyond - letter if letter > 0 else -beyond - letter for letter in word[::-1]])
        for word in words[::-1]
    ])


def twist_of(words):
    """The twist of the two cords of a lie of two cords."""
    twist = 0
    # What undoes a crossing goes the other way.
    for _, way in unwinding_row(words):
        twist = twist + (1 if way == "behind" else -1)
    return twist
