"""Points: for each call of a list the moment at which its deed may be done, along the list."""

from seenatonce.errors import BadPlaces
from seenatonce.histories import are_places, check_history, goes_ahead


def _against(history, places, k):
    """The first of the calls that stand ahead of the one at places[k], but are behind it in the history; None."""
    other = places[k]
    wrong = [one for one in places[:k] if goes_ahead(history[other], history[one])]
    return wrong[0] if wrong else None


def points_of(table, history, places):
    """("points", moments), the least moments for the calls along the places; or ("against", one, other)."""
    check_history(table, history)
    if not are_places(history, places):
        raise BadPlaces("no list of unlike places with all calls that are not open")
    moments = []
    for k, place in enumerate(places):
        one = _against(history, places, k)
        if one is not None:
            return ("against", one, place)
        # No call ahead in the list begins behind this one's end: so the greatest begin up to here is below it.
        moments.append(max([history[place][1]] + moments[-1:]))
    return ("points", tuple(moments))
