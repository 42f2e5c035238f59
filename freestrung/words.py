"""Words: tuples of letters, integers other than 0, of which opposite ones strike each other."""


def reduced(letters):
    """The reduced word of some letters."""
    word = []
    for letter in letters:
        if len(word) > 0 and word[-1] == -letter:
            word.pop()
        else:
            word.append(letter)
    return tuple(word)


def back(word):
    """The back of a word: the opposite letters in the reverse order."""
    return tuple([-letter for letter in word[::-1]])


def joined(*words):
    """The reduced word of some words, one behind the other."""
    letters = []
    for word in words:
        letters.extend(word)
    return reduced(letters)


def linked(word, other):
    """Two words joined that are reduced already, so that letters strike at their seam only."""
    struck = 0
    most = min(len(word), len(other))
    while struck < most and word[-1 - struck] == -other[struck]:
        struck += 1
    return word[:len(word) - struck] + other[struck:]
