"""Words and blocks: block partings, confounded words, effects in strata, and block words that are sought."""

from itertools import combinations

from crossmeans.checks import check_alike
from crossmeans.errors import BadPrime, NoDesign
from crossmeans.lattice import meet_all
from crossmeans.partings import Parting
from crossmeans.strata import holding_place
from crossmeans.tables import Table, lot_marks, means, residue
from crossmeans.words import check_words


def block_parting(house, block_words):
    """The meet of the partings of the words."""
    check_words(house, block_words)
    return meet_all([house.word_parting(word) for word in block_words], plots=house.plots)


def confounded(house, block_words):
    """The lead words that the block words generate, ascending."""
    made = house.generated(block_words)
    return [word for word in house.leads if word in made]


def effect_square(house, word, table):
    """The square of the difference between the means by the word's parting and by the one-lot parting."""
    parting = house.word_parting(word)
    difference = means(parting, table) - means(Parting.one(house.plots), table)
    return difference.square()


def contrast(house, word):
    """For prime 2 the table that is 1 where the word has the value 0, and -1 where it has the value 1."""
    parting = house.word_parting(word)
    if house.prime != 2:
        raise BadPrime(house.prime)
    # Plot 0 has the level 0 in each factor, so each word has the value 0 there.
    return Table([1 if parting.together(0, plot) else -1 for plot in range(house.plots)])


def effect_place(strata, effect):
    """The least index of a member whose stratum holds the effect, or None."""
    one = Parting.one(effect.plots)
    return holding_place(strata, [residue(one, mark) for mark in lot_marks(effect)])


def effect_places(house, strata):
    """A tuple (word, place of its parting) for each lead word, ascending."""
    check_alike(house.plots, [strata])
    return [(word, effect_place(strata, house.word_parting(word))) for word in house.leads]


def choose_blocks(house, count, keep=()):
    """The least independent lead words, so many of them, that generate no word of the list."""
    check_words(house, keep)
    if count > house.factors:
        raise NoDesign()
    kept = [tuple(word) for word in keep if tuple(word) != house.empty_word]
    leads = list(house.leads)
    for chosen in combinations(leads, count):
        made = house.generated(chosen)
        if house.is_independent(chosen) and not any([word in made for word in kept]):
            return chosen
    raise NoDesign()
