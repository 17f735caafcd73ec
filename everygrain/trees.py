"""The trees of selections: how they are read, told, and what they mean [141, 142].

A tree is ("all",), or ("=", key, word) with None for any word, or ("!", tree), or ("&", trees), or ("|", trees).
"""

from everygrain.errors import Malformed
from everygrain.kinds import is_name, is_word


def read_tree(parts):
    """Read a selection from a reader of parts, as far as it goes; Malformed if none stands there."""
    return _read_row(parts, "|", _read_ands)


def _read_ands(parts):
    return _read_row(parts, "&", _read_one)


def _read_row(parts, sign, read_item):
    """Read the selections that stand with one sign between them."""
    trees = [read_item(parts)]
    while parts.ahead() == sign:
        parts.read()
        trees.append(read_item(parts))
    if len(trees) == 1:
        return trees[0]
    return sign, trees


def _read_one(parts):
    part = parts.read()
    if part == "!":
        return "!", _read_one(parts)
    if part != "(":
        return _read_test(part, parts)
    tree = read_tree(parts)
    if parts.read() != ")":
        raise Malformed()
    return tree


def _read_test(key, parts):
    """Read the rest of a test behind its first part."""
    if key == "all" and parts.ahead() != "=":
        return ("all",)
    if not is_name(key) or parts.read() != "=":
        raise Malformed()
    word = parts.read()
    if word == "*":
        return "=", key, None
    if not is_word(word):
        raise Malformed()
    return "=", key, word


def plainest_text(tree):
    """The plainest text of a selection."""
    if tree[0] == "all":
        return "all"
    if tree[0] == "=":
        return tree[1] + "=" + (tree[2] or "*")
    if tree[0] == "!":
        return "!" + _text_within(tree[1], ("&", "|"))
    if tree[0] == "&":
        return " & ".join([_text_within(one, ("|",)) for one in tree[1]])
    return " | ".join([plainest_text(one) for one in tree[1]])


def _text_within(tree, signs):
    """The text of a tree within another one, in brackets if it is of one of the kinds that need them there."""
    if tree[0] in signs:
        return "(" + plainest_text(tree) + ")"
    return plainest_text(tree)


def means(tree, words):
    """Tell whether a series is meant that has these words, a dict by keys, its name among them."""
    if tree[0] == "all":
        return True
    if tree[0] == "=":
        word = words.get(tree[1])
        return word is not None and (tree[2] is None or word == tree[2])
    if tree[0] == "!":
        return not means(tree[1], words)
    told = [means(one, words) for one in tree[1]]
    if tree[0] == "&":
        return all(told)
    return any(told)


def tests_of(tree):
    """The tuples (key, word) of all tests of a key in a tree, with None for any word."""
    if tree[0] == "all":
        return []
    if tree[0] == "=":
        return [(tree[1], tree[2])]
    if tree[0] == "!":
        return tests_of(tree[1])
    tests = []
    for one in tree[1]:
        tests.extend(tests_of(one))
    return tests
