"""Lines of words, judged word by word."""

from freestrung.errors import BadLine
from freestrung.patterns import accepts


def words_at(lines, at, patterns):
    """The words of a line, which must have one of these patterns."""
    if at >= len(lines):
        raise BadLine(len(lines), 0)
    if not isinstance(lines[at], str):
        raise BadLine(at, 0)
    words = lines[at].split(" ")
    fitting = [pattern.split(" ") for pattern in patterns]
    for place, word in enumerate(words):
        fitting = [kinds for kinds in fitting if place < len(kinds) and accepts(kinds[place], word)]
        if len(fitting) == 0:
            raise BadLine(at, place)
    if len(words) not in [len(kinds) for kinds in fitting]:
        raise BadLine(at, len(words))
    return tuple(words)
