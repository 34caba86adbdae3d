"""Words: exponents of 2 or 3 levels, their sums and multiples, and the partings that they make."""

from crossmeans.checks import check_amount, check_most, check_plot, is_place
from crossmeans.errors import BadPrime, BadText, BadWord
from crossmeans.partings import Parting

_LETTERS = "abcd"


class Words:
    """The words of some factors that all have a prime count of levels, and their plots."""

    PRIMES = (2, 3)

    def __init__(self, prime, factors):
        if prime not in Words.PRIMES:
            raise BadPrime(prime)
        # Each factor at least doubles the plots, so a long count of factors never has to be gone through.
        check_amount(factors, "plots")
        plots = 1
        for _ in range(factors):
            plots = plots * prime
        check_most(plots, "plots")
        words = [()]
        for _ in range(factors):
            words = [word + (exponent,) for word in words for exponent in range(prime)]
        self.prime = prime
        self.factors = factors
        self.plots = plots
        self.empty_word = words[0]
        self.all_words = tuple(words)
        self.leads = tuple([word for word in words if _first_exponent(word) == 1])

    def point(self, plot):
        """The levels of the plot."""
        check_plot(self.plots, plot)
        # The points and the words are the same tuples in the same order.
        return self.all_words[plot]

    def value(self, word, plot):
        """The sum of exponent times level over the factors, modulo the prime."""
        check_word(self, word)
        check_plot(self.plots, plot)
        return _value(self, word, plot)

    def word_parting(self, word):
        """The parting with two plots in one lot if the word has equal values there."""
        check_word(self, word)
        return Parting([_value(self, word, plot) for plot in range(self.plots)])

    def word_sum(self, left, right):
        """The sum of two words."""
        check_word(self, left)
        check_word(self, right)
        return _sum(self, left, right)

    def multiple(self, word, times):
        """The word so many times; a negative count is taken modulo the prime, too."""
        check_word(self, word)
        return tuple([exponent * times % self.prime for exponent in word])

    def lead(self, word):
        """The multiple of the word whose first nonzero exponent is 1; the empty word for itself."""
        # Modulo 2 and 3 each exponent other than 0 times itself is 1.
        return self.multiple(word, _first_exponent(word))

    def weight(self, word):
        """The count of the exponents that are not 0."""
        check_word(self, word)
        return len([exponent for exponent in word if exponent != 0])

    def generated(self, words):
        """All sums of multiples of the words, ascending."""
        check_words(self, words)
        found = [self.empty_word]
        for word in words:
            multiples = [self.multiple(word, times) for times in range(self.prime)]
            found = sorted(set([_sum(self, one, other) for one in found for other in multiples]))
        return tuple(found)

    def is_independent(self, words):
        """True if no word of the list is a sum of multiples of the others."""
        made = self.generated(words)
        count = 1
        for _ in words:
            count = count * self.prime
        return len(made) == count

    def coset(self, words, word):
        """The sums of the word with each generated word, ascending."""
        made = self.generated(words)
        check_word(self, word)
        return tuple(sorted([_sum(self, word, other) for other in made]))

    def least_weight(self, words):
        """The least weight of a generated word other than the empty one, or None if there is none."""
        return min([self.weight(word) for word in self.generated(words) if word != self.empty_word], default=None)

    def fraction(self, words):
        """The plots at which each of the words has the value 0."""
        check_words(self, words)
        return [plot for plot in range(self.plots) if all([_value(self, word, plot) == 0 for word in words])]

    def write(self, word):
        """The written form of the word."""
        check_word(self, word)
        parts = [_part_text(letter, exponent) for letter, exponent in zip(_LETTERS, word) if exponent != 0]
        return "".join(parts) if parts else "1"

    def read(self, text):
        """The word whose written form is the text."""
        for word in self.all_words:
            if self.write(word) == text:
                return word
        raise BadText(text)


def check_word(house, word):
    """Raise BadWord if the list is not a word of the house."""
    if len(word) != house.factors:
        raise BadWord(len(word))
    for at, exponent in enumerate(word):
        if not is_place(house.prime, exponent):
            raise BadWord(at)


def check_words(house, words):
    """Raise the errors of a list of words of the house, which may be empty."""
    check_most(len(words), "words")
    for word in words:
        check_word(house, word)


def _first_exponent(word):
    """The first exponent that is not 0; 0 for the empty word."""
    nonzero = [exponent for exponent in word if exponent != 0]
    return nonzero[0] if nonzero else 0


def _value(house, word, plot):
    return sum([exponent * level for exponent, level in zip(word, house.all_words[plot])]) % house.prime


def _sum(house, left, right):
    return tuple([(one + other) % house.prime for one, other in zip(left, right)])


def _part_text(letter, exponent):
    return letter if exponent == 1 else letter + str(exponent)
