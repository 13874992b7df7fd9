"""Who was first: at which states two deeds settle it, and plans of two hands that agree on it."""

from seenatonce.checks import is_count, is_place, is_tuple_of
from seenatonce.errors import BadHand, BadPlans, BadTeller, BadView, BadWeaving, NotSettling, WrongPlans
from seenatonce.tables import check_deed, check_state, check_table, first_clash, is_deed

MOST_BEHIND = 5


def _views(table, state, mine, others):
    """The two views of a hand as the first one, and its view as the second one."""
    alone, answer = table[mine][state]
    joint, _ = table[others][alone]
    other_alone, _ = table[others][state]
    seen, late = table[mine][other_alone]
    return ((answer, alone), (answer, joint)), (late, seen)


def _first_blurred(table, state, one, other):
    for hand, mine, others in ((0, one, other), (1, other, one)):
        firsts, second = _views(table, state, mine, others)
        if second in firsts:
            answer, seen = second
            return (hand, answer, seen)
    return None


def blurred(table, state, one, other):
    """The least (hand, answer, seen) of a view as the first one and as the second one; None if there is none."""
    check_table(table)
    check_state(table, state)
    check_deed(table, one)
    check_deed(table, other)
    return _first_blurred(table, state, one, other)


def settles_at(table, state, one, other):
    """Whether no view of the two deeds at the state is blurred."""
    return blurred(table, state, one, other) is None


def _check_settles(table, state, one, other):
    view = _first_blurred(table, state, one, other)
    if view is not None:
        hand, answer, seen = view
        raise NotSettling(hand, answer, seen)


def choice_of(table, state, one, other, hand, answer, seen):
    """The hand that was first, told by the view (answer, seen) of a hand."""
    blurred(table, state, one, other)
    _check_settles(table, state, one, other)
    if not is_place(hand, 2):
        raise BadHand("no hand: 0 or 1")
    mine, others = (one, other) if hand == 0 else (other, one)
    firsts, second = _views(table, state, mine, others)
    if not is_count(answer) or not is_count(seen) or (answer, seen) not in (*firsts, second):
        raise BadView("no view of the hand")
    return hand if (answer, seen) in firsts else 1 - hand


def _tells(deed):
    """Whether a deed changes no state and gives unlike answers at unlike states."""
    answers = [answer for _, answer in deed]
    return [behind for behind, _ in deed] == list(range(len(deed))) and len(set(answers)) == len(answers)


def telling_deeds(table):
    """The ascending list of the deeds that change no state and give unlike answers at unlike states."""
    check_table(table)
    return [deed for deed in range(len(table)) if _tells(table[deed])]


def _first_settling(table):
    """The least (state, one, other) at which the table settles; None if there is none."""
    deeds = range(len(table))
    for state in range(len(table[0])):
        for one in deeds:
            for other in deeds:
                if _first_blurred(table, state, one, other) is None:
                    return (state, one, other)
    return None


def kind_of(table):
    """Whether the table is served, settles somewhere with a teller, or is open, and the least deeds for it."""
    check_table(table)
    pair = first_clash(table)
    if pair is None:
        return ("served",)
    tellers = telling_deeds(table)
    place = _first_settling(table)
    if tellers and place is not None:
        return ("settles", *place, tellers[0])
    return ("open", *pair)


def _answers(table, deed):
    """The ascending list of the answers that the deed has at any state."""
    return sorted(set([answer for _, answer in table[deed]]))


def _are_branches(table, deed, value, most):
    """Whether any value is the branches of a deed, behind which at most so many deeds are done."""
    if not isinstance(value, tuple) or not all([is_tuple_of(branch, 2) for branch in value]):
        return False
    told = [branch[0] for branch in value]
    # A bool would be equal to an answer without being one.
    if not all([is_count(answer) for answer in told]) or told != _answers(table, deed):
        return False
    return all([_is_plan(table, branch[1], most) for branch in value])


def _is_plan(table, value, most):
    """Whether any value is a plan in which at most so many deeds are done one behind another."""
    if is_tuple_of(value, 2):
        return value[0] == "say" and is_place(value[1], 2)
    if not is_tuple_of(value, 3) or value[0] != "do" or not is_deed(table, value[1]) or most == 0:
        return False
    return _are_branches(table, value[1], value[2], most - 1)


def is_plan(table, value):
    """Whether any value is a plan of a hand for the table."""
    check_table(table)
    return _is_plan(table, value, MOST_BEHIND)


def _check_plans(table, begin, plans):
    check_table(table)
    check_state(table, begin)
    if not is_tuple_of(plans, 2) or not all([_is_plan(table, plan, MOST_BEHIND) for plan in plans]):
        raise BadPlans("no pair of plans")


def _does(plan):
    return plan[0] == "do"


def _turn(table, state, left, hand):
    """The state and the plans that are left behind a turn of a hand that is to do a deed."""
    _, deed, branches = left[hand]
    behind, told = table[deed][state]
    rest = [plan for answer, plan in branches if answer == told][0]
    return behind, ((rest, left[1]) if hand == 0 else (left[0], rest))


def woven(table, begin, plans, weaving):
    """The pair of the state and the plans that are left behind all turns of the weaving."""
    _check_plans(table, begin, plans)
    if not isinstance(weaving, tuple) or not all([is_place(hand, 2) for hand in weaving]):
        raise BadWeaving("no tuple of hands")
    state, left = begin, plans
    for hand in weaving:
        if not _does(left[hand]):
            raise BadWeaving("a turn of a hand that is to say")
        state, left = _turn(table, state, left, hand)
    return (state, left)


def _is_wrong(left, weaving):
    """Whether the weaving is wrong that leaves these plans."""
    for hand, plan in enumerate(left):
        if plan == ("say", 1 - hand) and 1 - hand not in weaving:
            return True
    return not _does(left[0]) and not _does(left[1]) and left[0] != left[1]


def _first_wrong(table, state, left, weaving):
    """A wrong weaving that goes on from this one; None if there is none."""
    if _is_wrong(left, weaving):
        return weaving
    for hand in (0, 1):
        if _does(left[hand]):
            behind, rest = _turn(table, state, left, hand)
            wrong = _first_wrong(table, behind, rest, weaving + (hand,))
            if wrong is not None:
                return wrong
    return None


def goes_wrong(table, begin, plans):
    """None if the plans are right; otherwise a wrong weaving."""
    _check_plans(table, begin, plans)
    return _first_wrong(table, begin, plans, ())


def _say_of(table, state, mine, others, hand, view):
    """The plan to say who was first by this view; the hand itself if it is no view."""
    _, second = _views(table, state, mine, others)
    return ("say", 1 - hand if view == second else hand)


def _settling_plan(table, state, mine, others, hand, teller):
    """The plan to do a deed, then the teller, and then to say who was first."""
    looks = sorted([(told, seen) for seen, (_, told) in enumerate(table[teller])])
    branches = []
    for answer in _answers(table, mine):
        says = [(told, _say_of(table, state, mine, others, hand, (answer, seen))) for told, seen in looks]
        branches.append((answer, ("do", teller, tuple(says))))
    return ("do", mine, tuple(branches))


def settling_plans(table, state, one, other, teller):
    """The pair of plans in which each hand does its deed and the teller, and says who was first."""
    blurred(table, state, one, other)
    if not is_deed(table, teller) or not _tells(table[teller]):
        raise BadTeller("no deed that tells the state")
    _check_settles(table, state, one, other)
    plans = [_settling_plan(table, state, one, other, 0, teller), _settling_plan(table, state, other, one, 1, teller)]
    return tuple(plans)


def _may_say(table, state, left, told):
    """Whether from here on a hand may come to say this hand."""
    if ("say", told) in left:
        return True
    turns = [_turn(table, state, left, hand) for hand in (0, 1) if _does(left[hand])]
    return any([_may_say(table, behind, rest, told) for behind, rest in turns])


def _turn_on(table, state, left):
    """The least hand behind whose turn either hand may still be said; None if there is none."""
    for hand in (0, 1):
        if _does(left[hand]):
            behind, rest = _turn(table, state, left, hand)
            if _may_say(table, behind, rest, 0) and _may_say(table, behind, rest, 1):
                return hand
    return None


def turning_point(table, begin, plans):
    """A tuple (weaving, state, one, other): whose turn is next settles what is ever said."""
    wrong = goes_wrong(table, begin, plans)
    if wrong is not None:
        raise WrongPlans(wrong)
    state, left, weaving = begin, plans, ()
    # At first either hand may be said, as each says itself if it is alone. While a turn leaves this open it is
    # taken; as plans end, at last no turn does. Then the two turns lead to unlike hands, or neither could be open.
    hand = _turn_on(table, state, left)
    while hand is not None:
        state, left = _turn(table, state, left, hand)
        weaving = weaving + (hand,)
        hand = _turn_on(table, state, left)
    return (weaving, state, left[0][1], left[1][1])
