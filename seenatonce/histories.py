"""Histories of calls: when each began and ended, which deed it did, and what it was answered."""

from seenatonce.checks import MOST_HANDS, is_count, is_list, is_place, is_tuple_of
from seenatonce.errors import BadCall, BadHistory, BadMoment
from seenatonce.tables import check_table, is_deed

MOST_CALLS = 60


def _is_call(table, value):
    """Whether any value is a call (hand, begin, end, deed, answer)."""
    if not is_tuple_of(value, 5):
        return False
    hand, begin, end, deed, answer = value
    if not is_place(hand, MOST_HANDS) or not is_count(begin) or not is_deed(table, deed):
        return False
    if end is None:
        return answer is None
    return is_count(end) and end > begin and is_count(answer)


def goes_ahead(one, other):
    """Whether a call is ahead of another one."""
    return one[2] is not None and one[2] < other[1]


def _have_unlike_moments(calls):
    moments = [call[1] for call in calls] + [call[2] for call in calls if call[2] is not None]
    return len(set(moments)) == len(moments)


def _are_one_behind_another(calls):
    """Whether of each two calls of one hand the one is ahead of the other."""
    pairs = [(one, other) for k, one in enumerate(calls) for other in calls[:k] if one[0] == other[0]]
    return all([goes_ahead(one, other) or goes_ahead(other, one) for one, other in pairs])


def is_history(table, value):
    """Whether any value is a history for the table: a list of calls."""
    check_table(table)
    if not is_list(value) or len(value) > MOST_CALLS or not all([_is_call(table, call) for call in value]):
        return False
    return _have_unlike_moments(value) and _are_one_behind_another(value)


def check_history(table, history):
    """BadTable for what is no table, then BadHistory for what is no history for it."""
    if not is_history(table, history):
        raise BadHistory("no history for the table")


def are_places(history, value):
    """Whether any value is a list of unlike places of calls, among them all calls that are not open."""
    if not is_list(value) or not all([is_place(place, len(history)) for place in value]):
        return False
    if len(set(value)) != len(value):
        return False
    return all([end is None or place in value for place, (_, _, end, _, _) in enumerate(history)])


def is_ahead(table, history, one, other):
    """Whether the call at the place one is ahead of the call at the place other."""
    check_history(table, history)
    if not is_place(one, len(history)):
        raise BadCall("one is no place of a call")
    if not is_place(other, len(history)):
        raise BadCall("other is no place of a call")
    return goes_ahead(history[one], history[other])


def _as_known(call, moment):
    """A call as it was known at a moment."""
    hand, begin, end, deed, answer = call
    return (hand, begin, None, deed, None) if end is None or end > moment else (hand, begin, end, deed, answer)


def beginning(table, history, moment):
    """The history as it was known at the moment."""
    check_history(table, history)
    if not is_count(moment):
        raise BadMoment("no moment")
    return [_as_known(call, moment) for call in history if call[1] <= moment]
