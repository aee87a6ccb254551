"""Where the blocks are."""


def places_at_thread(thread, row):
    """Return a list with (block, place) for each block of the thread."""
    _, _, _, hand, caches, batches = row
    found = [(block, ("hand", thread)) for block in hand]
    found.extend([(block, ("cache", thread)) for cache in caches for block in cache])
    found.extend([(block, ("batch", thread)) for rows in batches for batch in rows for block in batch])
    return found


def all_places(state):
    """Return a list with (block, place) for each time that a block is at a place."""
    found = []
    for page, use in enumerate(state.pages):
        if use[0] == "small":
            found.extend([((page, number), ("page",)) for number in use[3]])
    for slot, held in enumerate(state.slots):
        if held is not None and held[0] == "block":
            found.append((held[1:], ("slot", slot)))
    for thread, row in enumerate(state.threads):
        found.extend(places_at_thread(thread, row))
    for socket, blocks in enumerate(state.arrivals):
        found.extend([(block, ("arrivals", socket)) for block in blocks])
    for message, (_, blocks) in enumerate(state.flight):
        found.extend([(block, ("flight", message)) for block in blocks])
    return found


def small_blocks(machine, state):
    """Return the list of the blocks of the small pages."""
    blocks = []
    for page, use in enumerate(state.pages):
        if use[0] == "small":
            blocks.extend([(page, number) for number in range(machine.classes[use[2]])])
    return blocks


def places_of_blocks(machine, state):
    """Return a dict as that of places, in any order."""
    found = {block: [] for block in small_blocks(machine, state)}
    for block, place in all_places(state):
        found.setdefault(block, []).append(place)
    return found


def places(machine, state):
    """Return a dict with the sorted list of its places for each block."""
    found = places_of_blocks(machine, state)
    return {block: sorted(found[block]) for block in sorted(found)}


def is_good(machine, state):
    """Return whether each block of a small page is in one place, and no other block in any."""
    found = places_of_blocks(machine, state)
    if len(found) > len(small_blocks(machine, state)):
        return False
    return all([len(block_places) == 1 for block_places in found.values()])


def is_lost_or_doubled(block_places):
    """Return whether a block is in no place, in two slots, or twice in the list of its page."""
    in_slots = [place for place in block_places if place[0] == "slot"]
    return len(block_places) == 0 or len(in_slots) > 1 or block_places.count(("page",)) > 1


def is_bad(machine, state):
    """Return whether a block of a small page is lost or doubled."""
    found = places_of_blocks(machine, state)
    return any([is_lost_or_doubled(found[block]) for block in small_blocks(machine, state)])
