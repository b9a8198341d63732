"""Teams of painters: their scores, and which teams are ahead on which days."""

from paintposts.checks import check_day, check_post, is_between
from paintposts.errors import InvalidCount, InvalidTeams
from paintposts.limits import MAX_TEAMS
from paintposts.runs import numbers_between, painted_counts


def scores(fence, teams, first, last, day):
    """The list of the scores of all teams on this day, for the posts from first to last."""
    _check_teams(fence, teams)
    check_post(first)
    check_post(last)
    check_day(day)
    return [_score(spans, day) for spans in _spans_of(fence, teams, first, last)]


def leads(fence, teams, first, last):
    """The list of (day, indexes of the leaders): for day 0, and for each day with other leaders than the day before."""
    _check_teams(fence, teams)
    check_post(first)
    check_post(last)
    found = []
    for day, places in _leaders_by_days(_spans_of(fence, teams, first, last)):
        if len(found) == 0 or found[-1][1] != places:
            found.append((day, places))
    return found


def days_ahead(fence, teams, first, last, place, day):
    """On how many of the days from 0 to this one the team with this index is the only leader."""
    rows = leads(fence, teams, first, last)
    if not is_between(place, 0, len(teams) - 1):
        raise InvalidCount(place)
    check_day(day)
    ends = [row[0] for row in rows[1:]] + [day + 1]
    return sum([
        max(0, min(end, day + 1) - start)
        for (start, places), end in zip(rows, ends) if places == (place,)])


def _check_teams(fence, teams):
    if not isinstance(teams, (list, tuple)) or not 1 <= len(teams) <= MAX_TEAMS:
        raise InvalidTeams(-1)
    for index, team in enumerate(teams):
        if not _is_team(fence, team):
            raise InvalidTeams(index)


def _is_team(fence, value):
    """True if any value is a list or a tuple of names of painters of the fence, without duplicates."""
    if not isinstance(value, (list, tuple)):
        return False
    are_names = all([name in fence for name in value])
    return are_names and len(set(value)) == len(value)


def _spans_of(fence, teams, first, last):
    """For each team, the list of the spans (first day, last day) on which each of its painters paints in between."""
    walks = {}
    for painter, count in painted_counts(fence):
        least, most = numbers_between((1, painter.post, painter.stride, count), first, last)
        # These days follow each other, and on each of them the painter paints one of the posts.
        if least <= most:
            walks[painter.name] = (painter.day + least, painter.day + most)
    return [[walks[name] for name in team if name in walks] for team in teams]


def _score(spans, day):
    """How many posts are painted by this day, if one is painted on each day of each span."""
    return sum([max(0, min(day, end) - start + 1) for start, end in spans])


def _leaders_by_days(spans_of_teams):
    """The list of (day, indexes of the leaders) of day 0 and all days on which the leaders may change, in order."""
    turns = _turns(spans_of_teams)
    found = []
    for turn, after in zip(turns, turns[1:] + [None]):
        # From one turn to the next, each score grows evenly.
        lines = [(_score(spans, turn), _growth(spans, turn)) for spans in spans_of_teams]
        for wait in _waits(lines):
            if after is None or turn + wait < after:
                found.append((turn + wait, _leaders([score + wait * growth for score, growth in lines])))
    return found


def _turns(spans_of_teams):
    """Day 0, and the days from which on a painter walks in between, or does not any more, in order."""
    found = [0]
    for spans in spans_of_teams:
        for start, end in spans:
            found.append(start)
            found.append(end + 1)
    return sorted(set(found))


def _growth(spans, day):
    """By how many posts a day the score grows from this day on."""
    return len([start for start, end in spans if start <= day <= end])


def _waits(lines):
    """0, and after how many days one score reaches another one or comes to be ahead of it, in order."""
    found = [0]
    for score, growth in lines:
        for other_score, other_growth in lines:
            if score <= other_score and growth > other_growth:
                gap, speed = other_score - score, growth - other_growth
                found.append(-(-gap // speed))
                found.append(gap // speed + 1)
    return sorted(set(found))


def _leaders(marks):
    best = max(marks)
    return tuple([place for place, mark in enumerate(marks) if mark == best])
