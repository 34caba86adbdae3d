from itertools import product

from crossmeans.errors import BadPlot, BadPrime, BadText, BadWord, NoPlots, TooMany
from crossmeans.words import Words
from tests.helpers import ANY_VALUES, BIG, NO_WHOLE, CrossTest, numbers, parting

# All houses that there are.
SHAPES = ((2, 1), (2, 2), (2, 3), (2, 4), (3, 1), (3, 2))
HOUSES = [Words(prime, factors) for prime, factors in SHAPES]
CUBE = Words(2, 3)
NINE = Words(3, 2)


def words_of(house):
    return list(product(range(house.prime), repeat=house.factors))


def slow_value(house, word, plot):
    return sum(a * b for a, b in zip(word, words_of(house)[plot])) % house.prime


def slow_multiple(house, word, times):
    return tuple(times * exponent % house.prime for exponent in word)


def slow_generated(house, words):
    """All sums of multiples, by all choices of the factors of the words."""
    found = set()
    for factors in product(range(house.prime), repeat=len(words)):
        found.add(tuple(sum(times * word[k] for times, word in zip(factors, words)) % house.prime
                        for k in range(house.factors)))
    return tuple(sorted(found))


def slow_text(word):
    text = "".join(letter + ("2" if exponent == 2 else "") for letter, exponent in zip("abcd", word) if exponent)
    return text or "1"


def mixed_words(house, seed, count):
    listed = words_of(house)
    return [listed[at] for at in numbers(seed, count, 0, len(listed) - 1)]


def word_lists(house):
    """Some lists of words that are always the same: none, dependent ones, the empty word, repeated ones."""
    listed = words_of(house)
    short = [[], [listed[0]], [listed[-1]], [listed[-1], listed[-1]], [listed[0], listed[-1]], listed[1:4]]
    return short + [mixed_words(house, seed, seed % 5) for seed in range(20)]


class HouseTest(CrossTest):
    def test_example(self):
        house = Words(3, 2)
        self.same((house.write(house.multiple([1, 2], 2)), house.lead((2, 1)), house.leads),
                  ("a2b", (1, 2), ((0, 1), (1, 0), (1, 1), (1, 2))))

    def test_properties(self):
        for (prime, factors), house in zip(SHAPES, HOUSES):
            self.same((house.prime, house.factors, house.plots), (prime, factors, prime ** factors))
            self.same(house.empty_word, (0,) * factors)
            self.same(house.all_words, tuple(product(range(prime), repeat=factors)))
            leads = [word for word in house.all_words if [exponent for exponent in word if exponent][:1] == [1]]
            self.same(house.leads, tuple(leads))
            self.assertEqual(len(leads), (prime ** factors - 1) // (prime - 1))
        self.same(Words.PRIMES, (2, 3))
        self.same(Words(prime=2, factors=1).leads, ((1,),))

    def test_every_prime_and_count_of_factors(self):
        for prime, factors in product((2, 3), range(-3, 20)):
            if factors < 1:
                self.refuses(NoPlots(), Words, prime, factors)
            elif prime ** factors > 16:
                self.refuses(TooMany("plots", 16), Words, prime, factors)
            else:
                self.same(Words(prime, factors).plots, prime ** factors)
        for prime in (2, 3):
            self.refuses(NoPlots(), Words, prime, -BIG)
            self.refuses(TooMany("plots", 16), Words, prime, BIG)
            self.refuses(TooMany("plots", 16), Words, prime, 10 ** 40 - 1)

    def test_wrong_primes(self):
        for value in NO_WHOLE + ((2,), (3,), (2, 1), [2], "2", "3", 0, 1, -2, -3, 4, 5, 6, 7, BIG, -BIG):
            self.refuses(BadPrime(value), Words, value, 2)
            # The prime comes before the factors.
            self.refuses(BadPrime(value), Words, value, 0)
            self.refuses(BadPrime(value), Words, value, BIG)

    def test_the_error_has_the_very_value(self):
        value = [2]
        try:
            Words(value, 1)
        except BadPrime as error:
            self.assertIs(error.number, value)

    def test_points(self):
        for house in HOUSES:
            for plot, point in enumerate(words_of(house)):
                self.same(house.point(plot), point)
            for value in NO_WHOLE + (-1, house.plots, BIG, -BIG):
                self.refuses(BadPlot(value), house.point, value)
        self.same(NINE.point(plot=5), (1, 2))


class WordTest(CrossTest):
    def test_values_and_partings(self):
        for house in HOUSES:
            for word in words_of(house):
                values = [slow_value(house, word, plot) for plot in range(house.plots)]
                self.same([house.value(word, plot) for plot in range(house.plots)], values)
                self.same([house.value(list(word), plot) for plot in range(house.plots)], values)
                self.same(house.word_parting(word).names, tuple(values.index(value) for value in values))
        self.same(CUBE.value(word=(1, 0, 1), plot=5), 0)
        self.same(NINE.value([2, 1], 4), 0)
        self.same(NINE.value([2, 2], 4), 1)

    def test_partings_by_hand(self):
        self.same(CUBE.word_parting(word=[0, 0, 0]).lots, ((0, 1, 2, 3, 4, 5, 6, 7),))
        self.assertTrue(CUBE.word_parting([1, 1, 1]) == parting("abbabaab"))
        self.assertTrue(CUBE.word_parting([1, 0, 0]) == parting("aaaabbbb"))
        self.assertTrue(CUBE.word_parting([0, 0, 1]) == parting("abababab"))
        self.same(NINE.word_parting([1, 2]).names, (0, 1, 2, 2, 0, 1, 1, 2, 0))
        # A word and its multiple have the same parting.
        for word in NINE.leads:
            self.assertTrue(NINE.word_parting(word) == NINE.word_parting(NINE.multiple(word, 2)))

    def test_sums(self):
        for house in HOUSES:
            for left, right in product(words_of(house), repeat=2):
                expected = tuple((a + b) % house.prime for a, b in zip(left, right))
                self.same(house.word_sum(left, list(right)), expected)
        self.same(NINE.word_sum(left=[2, 1], right=(2, 2)), (1, 0))

    def test_multiples(self):
        for house in HOUSES:
            for word, times in product(words_of(house), (0, 1, 2, 3, 4, -1, -2, -3, -4, BIG, -BIG)):
                self.same(house.multiple(word, times), slow_multiple(house, word, times))
        self.same(NINE.multiple(word=[1, 2], times=-1), (2, 1))
        self.same(CUBE.multiple([1, 0, 1], -1), (1, 0, 1))

    def test_leads(self):
        for house in HOUSES:
            for word in words_of(house):
                multiples = [slow_multiple(house, word, times) for times in range(house.prime)]
                right = [made for made in multiples if made in house.leads]
                self.same(house.lead(word), right[0] if right else house.empty_word)
        self.same(NINE.lead(word=[0, 2]), (0, 1))
        self.same(NINE.lead([0, 0]), (0, 0))

    def test_weights(self):
        for house in HOUSES:
            for word in words_of(house):
                self.same(house.weight(word), sum(exponent > 0 for exponent in word))
        self.same(NINE.weight(word=[2, 2]), 2)

    def test_written_forms(self):
        for house in HOUSES:
            for word in words_of(house):
                self.same(house.write(list(word)), slow_text(word))
                self.same(house.read(slow_text(word)), word)
        self.same(NINE.write(word=(1, 2)), "ab2")
        self.same(NINE.write([0, 0]), "1")
        self.same(Words(2, 4).write([1, 0, 1, 1]), "acd")
        self.same(NINE.read(text="a2b2"), (2, 2))

    def test_all_short_texts(self):
        for house in (Words(2, 2), NINE, CUBE):
            right = {slow_text(word): word for word in words_of(house)}
            for length in range(5):
                for signs in product("abcd12", repeat=length):
                    text = "".join(signs)
                    if text in right:
                        self.same(house.read(text), right[text])
                    else:
                        self.refuses(BadText(text), house.read, text)

    def test_texts_that_are_no_written_form(self):
        for text in ("", " ", "1 ", " 1", "a ", " a", "a b", "ba", "aa", "a1", "a1b", "a0b", "a3", "b2a", "2", "2a",
                     "c", "e", "A", "AB", "a*b", "a.b", "11", "a1b1", "ab22", "a\n", "\na", "1\n", "a" * 2000):
            self.refuses(BadText(text), NINE.read, text)
        self.refuses(BadText("d"), CUBE.read, "d")
        self.refuses(BadText("a2"), CUBE.read, "a2")
        self.same(CUBE.read("abc"), (1, 1, 1))


class ListTest(CrossTest):
    def test_generated(self):
        for house in HOUSES:
            for words in word_lists(house):
                self.same(house.generated(words), slow_generated(house, words))
                self.same(house.generated([list(word) for word in words]), slow_generated(house, words))
        self.same(CUBE.generated(words=()), ((0, 0, 0),))
        self.same(NINE.generated([(1, 2)]), ((0, 0), (1, 2), (2, 1)))
        self.same(NINE.generated([(0, 1)] * 16), ((0, 0), (0, 1), (0, 2)))

    def test_independence(self):
        for house in HOUSES:
            for words in word_lists(house):
                right = len(slow_generated(house, words)) == house.prime ** len(words)
                self.same(house.is_independent(words), right)
        self.same(CUBE.is_independent(words=[]), True)
        self.same(CUBE.is_independent([(0, 0, 0)]), False)
        self.same(CUBE.is_independent([(1, 1, 0), (0, 1, 1)]), True)
        self.same(CUBE.is_independent([(1, 1, 0), (0, 1, 1), (1, 0, 1)]), False)
        self.same(NINE.is_independent([(1, 2), (2, 1)]), False)
        self.same(NINE.is_independent([(1, 2), (1, 1)]), True)
        self.same(NINE.is_independent([(0, 1)] * 16), False)

    def test_cosets(self):
        for house in HOUSES:
            for seed, words in enumerate(word_lists(house)):
                [word] = mixed_words(house, seed + 77, 1)
                expected = sorted(tuple((a + b) % house.prime for a, b in zip(word, other))
                                  for other in slow_generated(house, words))
                self.same(house.coset(words, list(word)), tuple(expected))
        self.same(CUBE.coset(words=[[1, 1, 1]], word=[0, 1, 0]), ((0, 1, 0), (1, 0, 1)))
        self.same(NINE.coset([], (2, 1)), ((2, 1),))

    def test_least_weights(self):
        for house in HOUSES:
            for words in word_lists(house):
                weights = [sum(map(bool, word)) for word in slow_generated(house, words) if any(word)]
                self.same(house.least_weight(words), min(weights) if weights else None)
        self.same(CUBE.least_weight(words=[]), None)
        self.same(CUBE.least_weight([(0, 0, 0)]), None)
        self.same(Words(2, 4).least_weight([(1, 1, 1, 0), (0, 1, 1, 1)]), 2)

    def test_fractions(self):
        for house in HOUSES:
            for words in word_lists(house):
                expected = [plot for plot in range(house.plots)
                            if all(slow_value(house, word, plot) == 0 for word in words)]
                self.same(house.fraction(words), expected)
        self.same(CUBE.fraction(words=[]), list(range(8)))
        self.same(CUBE.fraction([(1, 1, 1)]), [0, 3, 5, 6])

    def test_lists_are_new(self):
        CUBE.fraction([(1, 1, 1)]).clear()
        self.same(CUBE.fraction([(1, 1, 1)]), [0, 3, 5, 6])


def word_calls(house):
    """All ways to pass one word, each with the other arguments right."""
    return (lambda word: house.value(word, 0), house.word_parting, lambda word: house.word_sum(word, house.empty_word),
            lambda word: house.word_sum(house.empty_word, word), lambda word: house.multiple(word, 2), house.lead,
            house.weight, lambda word: house.coset([], word), house.write)


def list_calls(house):
    return (house.generated, house.is_independent, lambda words: house.coset(words, house.empty_word),
            house.least_weight, house.fraction)


class WrongWordTest(CrossTest):
    def test_wrong_lengths(self):
        for house in HOUSES:
            for call in word_calls(house):
                for length in (0, 1, 2, 3, 4, 5, 17, 100):
                    if length != house.factors:
                        self.refuses(BadWord(length), call, [0] * length)
                        self.refuses(BadWord(length), call, (None,) * length)
            for call in list_calls(house):
                self.refuses(BadWord(7), call, [house.all_words[-1], [0] * 7, [None] * house.factors])

    def test_wrong_entries(self):
        for house in (CUBE, NINE):
            last = house.factors - 1
            for value in NO_WHOLE + (-1, house.prime, BIG, -BIG):
                for call in word_calls(house):
                    self.refuses(BadWord(0), call, [value] + [None] * last)
                    self.refuses(BadWord(last), call, (1,) * last + (value,))
                for call in list_calls(house):
                    self.refuses(BadWord(1), call, [[0] * house.factors, [0, value, 9][:house.factors], []])

    def test_too_many_words(self):
        for house in (CUBE, NINE):
            for call in list_calls(house):
                self.refuses(TooMany("words", 16), call, [[None]] * 17)
                self.refuses(BadWord(1), call, [[0] * house.factors] * 15 + [[1]])
                call([house.empty_word] * 16)

    def test_errors_come_in_the_order_of_the_parameters(self):
        self.refuses(BadWord(2), CUBE.value, [0, 1], 8)
        self.refuses(BadPlot(8), CUBE.value, [0, 1, 1], 8)
        self.refuses(BadWord(2), CUBE.word_sum, [0, 0, 2], [0])
        self.refuses(BadWord(1), CUBE.word_sum, [0, 1, 0], [0])
        self.refuses(TooMany("words", 16), CUBE.coset, [None] * 17, [])
        self.refuses(BadWord(2), CUBE.coset, [[0, 0, 3]], [])
        self.refuses(BadWord(0), CUBE.coset, [[0, 0, 1]], [])
        for value in ANY_VALUES:
            if not (isinstance(value, int) and 0 <= value < 8) or isinstance(value, bool):
                self.refuses(BadPlot(value), CUBE.value, [0, 0, 0], value)

    def test_arguments_stay(self):
        word, words = [2, 1], [[1, 2], [2, 2]]
        made = (NINE.word_sum(word, word), NINE.multiple(word, 2), NINE.lead(word), NINE.generated(words),
                NINE.coset(words, word), NINE.write(word), NINE.least_weight(words), NINE.fraction(words))
        self.same((word, words), ([2, 1], [[1, 2], [2, 2]]))
        word[0] = 0
        words[0].clear()
        self.same(made[:3], ((1, 2), (1, 2), (1, 2)))
        self.same(len(made[3]), 9)
