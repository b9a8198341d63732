"""What happens at a single post."""

from paintposts.checks import check_post
from paintposts.history import History, painting


def painter_of(fence, post, *, day=None):
    """The name of the painter that paints this post by this day, or None."""
    told = History(fence)
    return told(post, day)


def day_of(fence, post):
    """The day on which this post is painted, or None."""
    check_post(post)
    found = painting(History(fence), post)
    return None if found is None else found[1]


def passers(fence, post):
    """The list of (name, word) of all painters whose way has this post, by the days on which they would come there.

    The word is "paints", "stops" or "gone".
    """
    check_post(post)
    rows = History(fence).rows
    comers = []
    for place, painter in enumerate(fence.painters):
        number = painter.count_at(post)
        if number is not None:
            # The place stands before the rest, because it decides on equal days.
            comers.append((painter.day + number, place, painter.name, _word_for(number, rows[place][1])))
    return [(name, word) for _, _, name, word in sorted(comers)]


def _word_for(number, count):
    """What a painter that paints so many posts does at the post with this number."""
    if count is None or number < count:
        return "paints"
    return "stops" if number == count else "gone"
