"""Which pages a thread finds, told by what each page is used for."""

STORE = ("store",)


def spares_of(uses, socket):
    """Return the number of the spare pages of the socket."""
    return uses.count(("spare", socket))


def page_to_fill_from(uses, kind, socket):
    """Return the lowest small page of the class and the home with blocks in its list, or None."""
    for page, use in enumerate(uses):
        if use[0] == "small" and use[1] == socket and use[2] == kind and use[3]:
            return page
    return None


def page_to_open(uses, socket):
    """Return the lowest spare page of the socket, or else the lowest page of the store, or None."""
    for wanted in (("spare", socket), STORE):
        if wanted in uses:
            return uses.index(wanted)
    return None


def neighbours(uses, many):
    """Return the first one of the lowest neighbouring pages of the store, so many, or None."""
    wanted = (STORE,) * many
    for first in range(len(uses) - many + 1):
        if uses[first:first + many] == wanted:
            return first
    return None
