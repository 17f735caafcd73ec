"""Series: what points belong to, a name and tags [41 to 44]."""

from everygrain.errors import InvalidName, InvalidSeries, InvalidSeriesList, InvalidTags, InvalidText
from everygrain.kinds import is_list, is_name, is_word

MOST_TAGS = 6


class Series:
    """A name and tags; no call changes it."""

    def __init__(self, name, tags=()):
        if not is_name(name):
            raise InvalidName(name)
        pairs = _pairs_of(tags)
        if not _are_tags(pairs):
            raise InvalidTags(tags)
        self.name = name
        self.tags = tuple(sorted(pairs))

    def __eq__(self, other):
        return isinstance(other, Series) and self.name == other.name and self.tags == other.tags

    def text(self):
        """The name, and in braces the tags by ascending keys."""
        told = ",".join([key + "=" + word for key, word in self.tags])
        return self.name + "{" + told + "}"


def _pairs_of(tags):
    """What a dict or a list has of tags, as a list; None for any other value."""
    if isinstance(tags, dict):
        return list(tags.items())
    if is_list(tags):
        return list(tags)
    return None


def _are_tags(pairs):
    if pairs is None or len(pairs) > MOST_TAGS:
        return False
    if not all([_is_tag(pair) for pair in pairs]):
        return False
    return len({key for key, word in pairs}) == len(pairs)


def _is_tag(pair):
    if not isinstance(pair, tuple) or len(pair) != 2:
        return False
    return is_name(pair[0]) and pair[0] != "name" and is_word(pair[1])


def read_series(text):
    """The series of a text, in which the keys may stand in any order."""
    if not isinstance(text, str):
        raise InvalidText(text)
    name, _, rest = text.partition("{")
    if not rest.endswith("}"):
        raise InvalidText(text)
    try:
        return Series(name, _told_tags(rest[:-1]))
    except (InvalidName, InvalidTags):
        raise InvalidText(text) from None


def _told_tags(text):
    """What stands in the braces, as tuples; where it is no tags, neither are the tuples."""
    if text == "":
        return []
    parts = [item.partition("=") for item in text.split(",")]
    return [(key, word) for key, _, word in parts]


def _is_series_list(value):
    if not is_list(value):
        return False
    return all([isinstance(one, Series) for one in value])


def in_order(series):
    """The series of a list, ascending by their texts, of equal ones only one."""
    if not _is_series_list(series):
        raise InvalidSeriesList(series)
    by_text = {one.text(): one for one in series}
    return [by_text[text] for text in sorted(by_text)]


def word_of(series, key):
    """The word of the tag with this key, or None; for the key `name` the name of the series."""
    if not isinstance(series, Series):
        raise InvalidSeries(series)
    if not is_name(key):
        raise InvalidName(key)
    if key == "name":
        return series.name
    return dict(series.tags).get(key)


def grouped(series, key):
    """The series of a list by their words with a key, those without one ahead of all."""
    if not _is_series_list(series):
        raise InvalidSeriesList(series)
    if not is_name(key):
        raise InvalidName(key)
    groups = {}
    for one in in_order(series):
        groups.setdefault(word_of(one, key), []).append(one)
    words = sorted([word for word in groups if word is not None])
    if None in groups:
        words = [None] + words
    return [(word, groups[word]) for word in words]
