"""Tables: what their deeds do, which states are alike, which deeds commute or overwrite, tables made of tables."""

from seenatonce.checks import is_count, is_list, is_number, is_place, is_tuple_of
from seenatonce.errors import BadDeed, BadDeeds, BadSize, BadState, BadTable, TooLarge

MOST_STATES = 30
MOST_DEEDS = 12


def _is_step(value, states):
    return is_tuple_of(value, 2) and is_place(value[0], states) and is_count(value[1])


def is_table(value):
    """Whether any value is a table: a tuple of deeds, each a tuple of a pair (next, answer) for each state."""
    if not isinstance(value, tuple) or not 1 <= len(value) <= MOST_DEEDS:
        return False
    if not isinstance(value[0], tuple) or not 1 <= len(value[0]) <= MOST_STATES:
        return False
    states = len(value[0])
    if not all([is_tuple_of(deed, states) for deed in value]):
        return False
    return all([_is_step(step, states) for deed in value for step in deed])


def is_deed(table, value):
    """Whether any value is a deed of the table, as a number."""
    return is_place(value, len(table))


def check_table(table):
    """BadTable for what is no table."""
    if not is_table(table):
        raise BadTable("no table")


def check_state(table, state):
    """BadState for what is no state of the table."""
    if not is_place(state, len(table[0])):
        raise BadState("no state of the table")


def check_deed(table, deed):
    """BadDeed for what is no deed of the table."""
    if not is_deed(table, deed):
        raise BadDeed("no deed of the table")


def done(table, state, deeds):
    """The pair of the state that is reached by all deeds, one behind the other, and the list of their answers."""
    check_table(table)
    check_state(table, state)
    if not is_list(deeds) or not all([is_deed(table, deed) for deed in deeds]):
        raise BadDeeds("no list of deeds of the table")
    answers = []
    for deed in deeds:
        state, answer = table[deed][state]
        answers.append(answer)
    return (state, answers)


def _deed_apart(table, one, other):
    """The least deed with unlike answers at two states; None if there is none."""
    for deed in range(len(table)):
        if table[deed][one][1] != table[deed][other][1]:
            return deed
    return None


def _ways_on(table, ways, seen):
    """The ways that are one deed longer than these, to pairs of states not seen as yet, which then are seen."""
    further = []
    for one, other, way in ways:
        for deed in range(len(table)):
            pair = (table[deed][one][0], table[deed][other][0])
            if pair not in seen:
                seen[pair] = True
                further.append((pair[0], pair[1], way + [deed]))
    return further


def apart(table, here, there):
    """The shortest and of these the least list of deeds that ends with unlike answers; None if there is none."""
    check_table(table)
    check_state(table, here)
    check_state(table, there)
    seen = {(here, there): True}
    ways = [(here, there, [])]
    while ways:
        # The ways are all as long and ascending: so the first one that tells the two states apart is the least.
        for one, other, way in ways:
            deed = _deed_apart(table, one, other)
            if deed is not None:
                return way + [deed]
        ways = _ways_on(table, ways, seen)
    return None


def _numbered(keys):
    """A number for each key, equal ones for equal keys, given from 0 on in the sequence of the keys."""
    numbers = {}
    for key in keys:
        numbers.setdefault(key, len(numbers))
    return tuple([numbers[key] for key in keys])


def _step_in(classes, step):
    """The pair of a table in which each class is one state."""
    behind, answer = step
    return (classes[behind], answer)


def _finer(table, classes):
    """The classes of states which each deed leads to one class, with one answer."""
    states = len(table[0])
    return _numbered([tuple([_step_in(classes, deed[k]) for deed in table]) for k in range(states)])


def _classes(table):
    """The classes of alike states, numbered in the sequence of the states."""
    classes = (0,) * len(table[0])
    finer = _finer(table, classes)
    while finer != classes:
        classes = finer
        finer = _finer(table, classes)
    return classes


def merged(table):
    """A pair (small, classes): the least table with the same answers, and the state in it of each state."""
    check_table(table)
    classes = _classes(table)
    firsts = [classes.index(number) for number in range(max(classes) + 1)]
    small = tuple([tuple([_step_in(classes, deed[state]) for state in firsts]) for deed in table])
    return (small, classes)


def _check_two_deeds(table, one, other):
    check_table(table)
    check_deed(table, one)
    check_deed(table, other)


def _commute_at(table, state, one, other):
    behind_one, answer_one = table[one][state]
    behind_other, answer_other = table[other][state]
    last_one, late_one = table[one][behind_other]
    last_other, late_other = table[other][behind_one]
    return last_one == last_other and late_one == answer_one and late_other == answer_other


def do_commute(table, one, other):
    """Whether two deeds of a table commute."""
    return all([_commute_at(table, state, one, other) for state in range(len(table[0]))])


def does_overwrite(table, one, other):
    """Whether the one deed of a table overwrites the other one."""
    return all([table[one][behind] == table[one][state] for state, (behind, _) in enumerate(table[other])])


def clash(table, one, other):
    """Whether two deeds of a table neither commute nor overwrite one another."""
    if do_commute(table, one, other):
        return False
    return not does_overwrite(table, one, other) and not does_overwrite(table, other, one)


def commute(table, one, other):
    """Whether at every state the two deeds lead to one state and have the same answers in both sequences."""
    _check_two_deeds(table, one, other)
    return do_commute(table, one, other)


def overwrites(table, one, other):
    """Whether at every state the one deed leads to the same state, with the same answer, also behind the other."""
    _check_two_deeds(table, one, other)
    return does_overwrite(table, one, other)


def first_clash(table):
    """The least pair of deeds, one at most other, that neither commute nor overwrite; None if there is none."""
    for one in range(len(table)):
        for other in range(one, len(table)):
            if clash(table, one, other):
                return (one, other)
    return None


def is_served(table):
    """Whether of each two deeds the two commute or one overwrites the other."""
    check_table(table)
    return first_clash(table) is None


def _check_large(states, deeds):
    if states > MOST_STATES or deeds > MOST_DEEDS:
        raise TooLarge(states, deeds)


def _look_of(states):
    """The deed that changes no state and answers with its number."""
    return tuple([(state, state) for state in range(states)])


def with_look(table):
    """The table with a last deed more that changes no state and answers with its number."""
    check_table(table)
    states = len(table[0])
    _check_large(states, len(table) + 1)
    return table + (_look_of(states),)


def product(left, right):
    """Two objects beside one another as one: state (s, t) has the number s * m + t, m the states of right."""
    check_table(left)
    check_table(right)
    many = len(left[0])
    m = len(right[0])
    _check_large(many * m, len(left) + len(right))
    places = range(m)
    lefts = [tuple([(behind * m + t, answer) for behind, answer in deed for t in places]) for deed in left]
    rights = [tuple([(s * m + behind, answer) for s in range(many) for behind, answer in deed]) for deed in right]
    return tuple(lefts + rights)


def beside(left, right):
    """An object that is for ever of one of two kinds: the states of left and then those of right."""
    check_table(left)
    check_table(right)
    if len(left) != len(right):
        raise BadDeeds("not as many deeds in both tables")
    many = len(left[0])
    _check_large(many + len(right[0]), len(left))
    return tuple([one + tuple([(many + behind, answer) for behind, answer in other])
                  for one, other in zip(left, right)])


def _check_size(size, least, most):
    if not is_number(size) or not least <= size <= most:
        raise BadSize("no size of such a table")


def counting_table(size):
    """A counter: one more, back to 0, and a look."""
    _check_size(size, 1, MOST_STATES)
    states = range(size)
    return (tuple([((state + 1) % size, 0) for state in states]), tuple([(0, 0) for _ in states]), _look_of(size))


def greatest_table(size):
    """The greatest number that was put in: a deed for each number, and a look."""
    _check_size(size, 1, MOST_DEEDS - 1)
    deeds = [tuple([(max(state, k), 0) for state in range(size)]) for k in range(size)]
    return tuple(deeds) + (_look_of(size),)


def growing_table(many):
    """A set that grows: a deed for each number that may be put in, and a look."""
    _check_size(many, 0, 4)
    states = 1 << many
    deeds = [tuple([(state | (1 << k), 0) for state in range(states)]) for k in range(many)]
    return tuple(deeds) + (_look_of(states),)


def _cells_states(many, values):
    """How many states so many cells have."""
    states = 1
    for _ in range(many):
        states = states * values
    return states


def _put_deed(states, weight, values, value):
    """The deed that puts a value into the cell with this weight in the number of the state."""
    return tuple([(state + (value - state // weight % values) * weight, 0) for state in range(states)])


def cells_table(many, values):
    """Cells with a number each: a deed for each number that may be put into each cell, and a look."""
    _check_size(many, 1, MOST_DEEDS - 1)
    _check_size(values, 1, MOST_DEEDS - 1)
    _check_size(many * values, 1, MOST_DEEDS - 1)
    states = _cells_states(many, values)
    _check_size(states, 1, MOST_STATES)
    deeds = []
    weight = 1
    for _ in range(many):
        deeds.extend([_put_deed(states, weight, values, value) for value in range(values)])
        weight = weight * values
    return tuple(deeds) + (_look_of(states),)
