"""What leads where: names, each with the names that it leads to at once."""


def reached(links, start):
    """All names that some names lead to, by one step or more, in the order in which they are found."""
    found = []
    todo = list(start)
    while len(todo) > 0:
        here = todo.pop(0)
        for name in links[here]:
            if name not in found:
                found.append(name)
                todo.append(name)
    return found
