"""The letters between hands and houses."""

from seenatonce.checks import ascends, check_store, counts_from_one, is_place, is_row_for, is_tuple_of
from seenatonce.trust import are_names_by_form, has_name_form


def _is_one(value, word, many):
    return is_tuple_of(value, 2) and value[0] == word and is_place(value[1], many)


def is_hand_of(store, value):
    """Whether any value is a hand of the store, told as ("hand", number)."""
    return _is_one(value, "hand", store[0])


def is_house_of(store, value):
    """Whether any value is a house of the store, told as ("house", number)."""
    return _is_one(value, "house", store[1])


def _has_word(body, word, items):
    """Whether any value is a tuple of so many items, which begins with the word, a life and a turn."""
    return is_tuple_of(body, items) and body[0] == word and counts_from_one(body[1]) and counts_from_one(body[2])


def _may_hand_write(store, body):
    if _has_word(body, "ask", 5):
        return is_row_for(body[3], store[0]) and are_names_by_form(body[4]) and ascends(body[4])
    return _has_word(body, "keep", 4) and are_names_by_form(body[3])


def _may_house_write(body):
    if _has_word(body, "have", 5):
        return are_names_by_form(body[3]) and has_name_form(body[4])
    return _has_word(body, "kept", 4) and has_name_form(body[3])


def is_letter(store, value):
    """Whether any value is a letter (sender, receiver, body) between a hand and a house of the store."""
    check_store(store)
    if not is_tuple_of(value, 3):
        return False
    sender, receiver, body = value
    if is_hand_of(store, sender):
        return is_house_of(store, receiver) and _may_hand_write(store, body)
    return is_house_of(store, sender) and is_hand_of(store, receiver) and _may_house_write(body)
