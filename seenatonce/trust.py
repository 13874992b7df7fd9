"""The book of names and seals that nobody can forge."""

from seenatonce.checks import ascends, check_store, is_count, is_number, is_place, is_tuple_of
from seenatonce.errors import BadContent, BadName, BadTrust, BadWho


def has_name_form(value):
    """Whether any value is a name by its form alone, given or not."""
    return is_tuple_of(value, 2) and value[0] == "name" and is_count(value[1])


def are_names_by_form(value):
    """Whether any value is a tuple of names by their form alone."""
    return isinstance(value, tuple) and all([has_name_form(name) for name in value])


def has_content_form(value):
    """Whether any value is a content, if all names were given."""
    if isinstance(value, tuple):
        return all([has_content_form(item) for item in value])
    return value is None or isinstance(value, str) or is_number(value)


def _is_who(value):
    return is_tuple_of(value, 2) and value[0] in ("hand", "house") and is_count(value[1])


class Trust:
    """Names contents, and holds who sealed which of them."""

    def __init__(self):
        self._contents = []
        self._numbers = {}
        self._seals = {}

    def _is_content(self, value):
        if isinstance(value, tuple):
            if has_name_form(value):
                return self.is_name(value)
            return all([self._is_content(item) for item in value])
        return value is None or isinstance(value, str) or is_number(value)

    def _check_name(self, name):
        if not self.is_name(name):
            raise BadName("no name that was given")

    def _check_seal(self, who, name):
        if not _is_who(who):
            raise BadWho("no hand and no house")
        self._check_name(name)

    def name(self, content):
        """The name of the content, a new one if it has none."""
        if not self._is_content(content):
            raise BadContent("no content, or one that holds a name not given yet")
        # Contents may be deep; their texts are unlike exactly if they are.
        text = repr(content)
        if text not in self._numbers:
            self._numbers[text] = len(self._contents)
            self._contents.append(content)
        return ("name", self._numbers[text])

    def is_name(self, value):
        """Whether any value is a name that was given."""
        return has_name_form(value) and is_place(value[1], len(self._contents))

    def content(self, name):
        """The content that has the name."""
        self._check_name(name)
        return self._contents[name[1]]

    def size(self):
        """How many names were given."""
        return len(self._contents)

    def seal(self, who, name):
        """Who seals the content with this name."""
        self._check_seal(who, name)
        self._seals[(who, name)] = True

    def sealed(self, who, name):
        """Whether who sealed the content with this name."""
        self._check_seal(who, name)
        return (who, name) in self._seals


def check_book(trust, store):
    """BadTrust for what is no Trust, then BadStore for what is no store."""
    if not isinstance(trust, Trust):
        raise BadTrust("no Trust")
    check_store(store)


def are_ascending_names(trust, value):
    """Whether any value is an ascending tuple of names that were given, each once."""
    return isinstance(value, tuple) and all([trust.is_name(name) for name in value]) and ascends(value)
