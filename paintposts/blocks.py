"""Who stops where, found out from the posts at which one painter alone would block another."""


def rows_by(painters, block):
    """The tuple of the rows (name, count, stop) of the painters.

    block(place, other, count) is the number of the first post of the painter at this place of the list that the painter
    at the other place has painted before, if that one paints `count` posts (None: as many as it would paint alone), or
    None if there is no such post.
    """
    stopped = _find_stopped(painters, block)
    rows = []
    for place, painter in enumerate(painters):
        if place in stopped:
            count, blocker = stopped[place]
            stop = (painter.day + count, painter.post + count * painter.stride, painters[blocker].name)
            rows.append((painter.name, count, stop))
        else:
            rows.append((painter.name, None, None))
    return tuple(rows)


def comers(painters, rows, now):
    """The list of (name, post, is_painting) of all painters that come to a post on this day."""
    found = []
    for painter, (name, count, _) in zip(painters, rows):
        number = now - painter.day
        if number >= 0 and (count is None or number <= count):
            found.append((name, painter.post + number * painter.stride, count is None or number < count))
    return found


def _find_stopped(painters, block):
    """The painters that stop, by their places in the list: {place: (count, place of the blocker)}."""
    places = range(len(painters))
    blocks = [[block(one, two, None) for two in places] for one in places]
    stopped = {}
    while True:
        found = _earliest_block(painters, blocks, stopped)
        if found is None:
            return stopped
        _, place, count, blocker = found
        stopped[place] = (count, blocker)
        for other in places:
            if other not in stopped:
                blocks[other][place] = block(other, place, count)


def _earliest_block(painters, blocks, stopped):
    """The first block of all, as (day, place, count, place of the blocker), or None.

    Painters that are not known to stop are taken as alone here, so that a block may be found that never happens. But
    the first one of all happens, on equal days that of the earliest place: had its blocker stopped before, this stop
    would have been found before. No other painter blocks at the same post, because only one paints it.
    """
    found = [
        (painters[place].day + count, place, count, other)
        for place, row in enumerate(blocks) if place not in stopped
        for other, count in enumerate(row) if count is not None]
    return min(found, default=None)
