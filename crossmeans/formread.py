"""Formulas as texts, and formulas sought for given terms."""

from crossmeans.checks import NAME_SIGNS, check_most, check_names, is_factor_name
from crossmeans.errors import BadFormula, BadTree, RepeatedName, TooMany, UnknownName
from crossmeans.formula import MOST_FACTORS, Formula, term_sets

_MOST_SIGNS = 60
_KINDS = {"*": "cross", "/": "nest"}
# An opening bracket waits for its partner, and a closing one completes all that is in the brackets.
_TIGHTNESS = {"(": 0, ")": 1, "*": 2, "/": 3}


def read_formula(text):
    """The formula that is written in the text."""
    check_most(len(text), "signs", _MOST_SIGNS)
    return Formula(_tree_of(_words_of(text)))


def _words_of(text):
    """The names, signs and brackets of the text; raise the error of the first place that is wrong."""
    words = []
    at = _behind_spaces(text, 0)
    while at < len(text):
        word = _word_at(text, at)
        if word[0] in NAME_SIGNS:
            _check_name(words, word, at)
        elif not _may_stand(words, word):
            raise BadFormula(at)
        words.append(word)
        at = _behind_spaces(text, at + len(word))
    if _wants_part(words) or _open_brackets(words) > 0:
        raise BadFormula(len(text))
    return words


def _behind_spaces(text, start):
    at = start
    while at < len(text) and text[at] == " ":
        at += 1
    return at


def _word_at(text, start):
    """The run of letters and digits that begins here, or the one sign that stands here."""
    end = start
    while end < len(text) and text[end] in NAME_SIGNS:
        end += 1
    return text[start:max(end, start + 1)]


def _check_name(words, word, at):
    """Raise the error of a run of letters and digits behind these words, if any."""
    if not _wants_part(words) or not is_factor_name(word):
        raise BadFormula(at)
    if word in words:
        raise RepeatedName(word)
    if len([known for known in words if is_factor_name(known)]) == MOST_FACTORS:
        raise TooMany("factors", MOST_FACTORS)


def _may_stand(words, sign):
    """True if the sign, which is no name, may stand behind the words."""
    if sign == "(":
        return _wants_part(words)
    if sign == ")":
        return not _wants_part(words) and _open_brackets(words) > 0
    return sign in _KINDS and not _wants_part(words)


def _wants_part(words):
    """True if a name or an opening bracket is due behind the words."""
    return words == [] or words[-1] in ("(", "*", "/")


def _open_brackets(words):
    """The count of opening brackets without a partner."""
    return words.count("(") - words.count(")")


def _tree_of(words):
    """The tree that right words stand for."""
    trees = []
    signs = []
    for word in words:
        if is_factor_name(word):
            trees.append(("factor", word))
        elif word == "(":
            signs.append(word)
        else:
            # What binds at least as tight as the new sign is complete before it.
            while signs and _TIGHTNESS[signs[-1]] >= _TIGHTNESS[word]:
                _join_last(trees, signs.pop())
            if word == ")":
                signs.pop()
            else:
                signs.append(word)
    while signs:
        _join_last(trees, signs.pop())
    return trees[0]


def _join_last(trees, sign):
    """Put the last two trees together."""
    right = trees.pop()
    left = trees.pop()
    trees.append((_KINDS[sign], left, right))


def write_formula(formula):
    """The written form of the formula."""
    return _written(formula.tree)


def _written(tree):
    if tree[0] == "factor":
        return tree[1]
    kind, left, right = tree
    if kind == "nest":
        return _bracketed(left, ("cross",)) + "/" + _bracketed(right, ("cross", "nest"))
    return _written(left) + "*" + _bracketed(right, ("cross",))


def _bracketed(tree, kinds):
    """The written tree, in brackets if it is of one of the kinds."""
    return "(" + _written(tree) + ")" if tree[0] in kinds else _written(tree)


def write_terms(formula):
    """The terms of the formula as a text."""
    return " + ".join([".".join(term) for term in formula.terms()])


def formula_for(factors, terms):
    """A formula with exactly these factors and these terms as sets, or None if there is none."""
    _check_factors(factors)
    check_most(len(terms), "terms")
    for term in terms:
        for value in term:
            if value not in factors:
                raise UnknownName(value)
    wanted = term_sets(terms)
    for tree in _trees_over(list(factors)):
        formula = Formula(tree)
        if term_sets(formula.terms()) == wanted:
            return formula
    return None


def _check_factors(factors):
    """Raise the errors of a list of factors that a formula is sought for."""
    if len(factors) == 0:
        raise BadTree()
    check_most(len(factors), "factors", MOST_FACTORS)
    check_names(factors)


def _trees_over(names):
    """All trees with exactly these names, but of two crosses with the same two parts only one."""
    if len(names) == 1:
        return [("factor", names[0])]
    trees = []
    for lefts, rights in _splits(names):
        pairs = [(left, right) for left in _trees_over(lefts) for right in _trees_over(rights)]
        trees.extend([("nest", left, right) for left, right in pairs])
        # The terms of a cross do not depend on the order of its parts.
        if names[0] in lefts:
            trees.extend([("cross", left, right) for left, right in pairs])
    return trees


def _splits(names):
    """All ways to part the names into two lists that are not empty."""
    splits = [([], [])]
    for name in names:
        splits = [split for lefts, rights in splits for split in ((lefts + [name], rights), (lefts, rights + [name]))]
    return [(lefts, rights) for lefts, rights in splits if lefts and rights]
