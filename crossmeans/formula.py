"""Formulas: trees of factors that are crossed and nested, and their terms."""

from crossmeans.checks import check_most, is_factor_name
from crossmeans.errors import BadName, BadTree, RepeatedName, UnknownName

MOST_FACTORS = 4


class Formula:
    """A tree of 1 to 4 unequal factors."""

    def __init__(self, tree):
        factors = _factors_of(tree)
        check_most(len(factors), "factors", MOST_FACTORS)
        for at, name in enumerate(factors):
            if name in factors[:at]:
                raise RepeatedName(name)
        self.tree = tree
        self.factors = tuple(factors)

    @classmethod
    def factor(cls, name):
        """The formula of a factor alone."""
        if not is_factor_name(name):
            raise BadName(name)
        return cls(("factor", name))

    def terms(self):
        """The terms, shorter ones first, each a tuple of names in the order of the factors."""
        places = [[self.factors.index(name) for name in term] for term in _terms_of(self.tree)]
        ordered = sorted([(len(term), term) for term in places])
        return [tuple([self.factors[at] for at in term]) for _, term in ordered]

    def above(self, name):
        """The other factors that are in every term that has the named one."""
        if name not in self.factors:
            raise UnknownName(name)
        holding = [term for term in self.terms() if name in term]
        return tuple([high for high in self.factors if high != name and all([high in term for term in holding])])

    def __mul__(self, other):
        return Formula(("cross", self.tree, other.tree))

    def __floordiv__(self, other):
        return Formula(("nest", self.tree, other.tree))

    def __eq__(self, other):
        return isinstance(other, Formula) and self.tree == other.tree


def _factors_of(tree):
    """The factors of the tree from left to right; raise BadTree if the value is no tree."""
    if not isinstance(tree, tuple):
        raise BadTree()
    if len(tree) == 2 and tree[0] == "factor" and is_factor_name(tree[1]):
        return [tree[1]]
    if len(tree) == 3 and tree[0] in ("cross", "nest"):
        return _factors_of(tree[1]) + _factors_of(tree[2])
    raise BadTree()


def _terms_of(tree):
    """The terms of the tree in any order, each a list of names from left to right."""
    if tree[0] == "factor":
        return [[tree[1]]]
    lefts = _terms_of(tree[1])
    rights = _terms_of(tree[2])
    if tree[0] == "nest":
        whole = _factors_of(tree[1])
        return lefts + [whole + right for right in rights]
    return lefts + rights + [left + right for left in lefts for right in rights]


def same_terms(left, right):
    """True if the two formulas have the same terms as sets."""
    return term_sets(left.terms()) == term_sets(right.terms())


def term_sets(terms):
    """The terms as sets: each as a tuple of its unequal names, and each of these once, in one order."""
    return sorted(set([tuple(sorted(set(term))) for term in terms]))
