"""Names, and the words that are none."""

WORDS = (
    "puppet", "scene", "end", "pass", "turn", "move", "exit", "enter", "rest", "if", "else", "until",
    "repeat", "call", "left", "right", "before", "behind", "any", "on", "off", "front", "back",
    "opening", "first", "ends", "at", "row", "lie", "hold", "play", "do", "along", "still", "crew",
    "curtain",
)

MOST_LETTERS = 8


def is_name(thing):
    """Whether a thing is a name."""
    if not isinstance(thing, str) or not 1 <= len(thing) <= MOST_LETTERS:
        return False
    return all(["a" <= letter <= "z" for letter in thing]) and thing not in WORDS
