from itertools import combinations, product

from crossmeans.closure import closure
from crossmeans.confound import (block_parting, choose_blocks, confounded, contrast, effect_place, effect_places,
                                 effect_square)
from crossmeans.crossnest import structure
from crossmeans.errors import BadPrime, BadWord, NoDesign, TooMany, UnlikePlots
from crossmeans.formread import read_formula
from crossmeans.partings import Parting
from crossmeans.strata import Strata
from crossmeans.tables import Table, means
from crossmeans.words import Words
from tests.helpers import (BIG, NO_WHOLE, CrossTest, every_parting, fraction, numbers, pair_of, parting, partings_of,
                           slow_means, slow_pieces)
from tests.test_words import CUBE, HOUSES, NINE, slow_generated, slow_value, word_lists, words_of

PAIR = Words(2, 2)


def slow_block_names(house, words):
    keys = [tuple(slow_value(house, word, plot) for word in words) for plot in range(house.plots)]
    return tuple(keys.index(key) for key in keys)


def effect_rows(made):
    """The effect tables of a parting, lists of Fractions."""
    rows = []
    for lot in made.lots:
        mark = [int(plot in lot) for plot in range(made.plots)]
        rows.append([cell - mean for cell, mean in zip(mark, slow_means(Parting([0] * made.plots), mark))])
    return rows


def slow_place(strata, effect):
    for at in range(strata.many):
        if all(slow_pieces(strata.members, row)[at] == row for row in effect_rows(effect)):
            return at
    return None


class BlockTest(CrossTest):
    def test_block_partings(self):
        for house in HOUSES:
            for words in word_lists(house):
                self.same(block_parting(house, words).names, slow_block_names(house, words))
                # Words that generate the same words make the same blocks.
                self.assertTrue(block_parting(house, slow_generated(house, words)) == block_parting(house, words))

    def test_by_hand(self):
        self.same(block_parting(house=CUBE, block_words=()).many, 1)
        self.same(block_parting(CUBE, [(0, 0, 0)]).many, 1)
        self.assertTrue(block_parting(CUBE, [[1, 1, 1]]) == parting("abbabaab"))
        self.assertTrue(block_parting(CUBE, [(1, 1, 0), (0, 1, 1)]) == parting("abcddcba"))
        self.assertTrue(block_parting(CUBE, [(1, 1, 0), (0, 1, 1), (1, 0, 1)]) == parting("abcddcba"))
        self.same(block_parting(NINE, [(1, 2)] * 16).many, 3)

    def test_confounded_words(self):
        for house in HOUSES:
            for words in word_lists(house):
                expected = [word for word in slow_generated(house, words) if word in house.leads]
                self.same(confounded(house, words), expected)
        self.same(confounded(house=CUBE, block_words=[]), [])
        self.same(confounded(CUBE, [(0, 0, 0)]), [])
        self.same(confounded(CUBE, [[1, 1, 0], (0, 1, 1)]), [(0, 1, 1), (1, 0, 1), (1, 1, 0)])
        self.same(confounded(NINE, [(2, 1)]), [(1, 2)])

    def test_effect_tables_of_confounded_words(self):
        for house in (CUBE, NINE):
            for words in word_lists(house):
                blocks = block_parting(house, words)
                for word in house.leads:
                    for row in effect_rows(house.word_parting(word)):
                        held = slow_means(blocks, row)
                        self.assertEqual(held, row if word in confounded(house, words) else [0] * house.plots)

    def test_wrong_words(self):
        for call in (block_parting, confounded):
            self.refuses(TooMany("words", 16), call, CUBE, [None] * 17)
            self.refuses(BadWord(2), call, CUBE, [[1, 1, 1], [0, 1]])
            for value in NO_WHOLE + (-1, 2, BIG):
                self.refuses(BadWord(1), call, CUBE, [[1, 0, 0], [0, value, 5], [9]])

    def test_nothing_is_shared(self):
        words = [[1, 1, 1]]
        made = confounded(CUBE, words)
        block_parting(CUBE, words)
        words[0][0] = 0
        self.same(made, [(1, 1, 1)])
        confounded(CUBE, [[1, 1, 1]]).clear()
        self.same(confounded(CUBE, [[1, 1, 1]]), made)


class EffectTest(CrossTest):
    def test_squares_add_up(self):
        for house in HOUSES:
            for seed in range(4):
                table = Table([(number, 1 + seed) for number in numbers(seed, house.plots, -9, 9)])
                cells = [fraction(cell) for cell in table.cells]
                rest = fraction(means(Parting.one(house.plots), table).square())
                for word in house.leads:
                    one = slow_means(Parting([0] * house.plots), cells)
                    own = slow_means(house.word_parting(word), cells)
                    expected = sum((a - b) ** 2 for a, b in zip(own, one))
                    self.same(effect_square(house, list(word), table), pair_of(expected))
                    rest += expected
                self.same(table.square(), pair_of(rest))

    def test_squares_by_hand(self):
        table = Table([1, 2, 3, 6])
        self.same([effect_square(PAIR, word, table) for word in words_of(PAIR)], [(0, 1), (4, 1), (9, 1), (1, 1)])
        self.same(effect_square(house=PAIR, word=[0, 0], table=table), (0, 1))
        # A word and its multiple have the same square.
        table = Table(numbers(3, 9))
        for word in NINE.leads:
            self.same(effect_square(NINE, word, table), effect_square(NINE, NINE.multiple(word, 2), table))

    def test_wrong_arguments(self):
        short = Table([1, 2])
        self.refuses(BadWord(3), effect_square, PAIR, [0, 0, 0], short)
        self.refuses(BadWord(1), effect_square, PAIR, [0, 2], short)
        self.refuses(UnlikePlots(4, 2), effect_square, PAIR, [0, 1], short)
        self.refuses(UnlikePlots(4, 2), effect_square, PAIR, [0, 0], short)

    def test_contrasts(self):
        for house in HOUSES:
            for word in words_of(house):
                if house.prime == 3:
                    self.refuses(BadPrime(3), contrast, house, word)
                else:
                    cells = tuple((1 - 2 * slow_value(house, word, plot), 1) for plot in range(house.plots))
                    self.same(contrast(house, list(word)).cells, cells)
        self.same(contrast(house=PAIR, word=[0, 0]).cells, ((1, 1),) * 4)
        # The wrong word comes before the wrong prime.
        self.refuses(BadWord(0), contrast, NINE, [3, 0])
        self.refuses(BadWord(1), contrast, NINE, [0])
        self.refuses(BadWord(1), contrast, PAIR, [0, True])


class PlaceTest(CrossTest):
    def test_all_small_effects(self):
        lists = [["aabb"], ["aabb", "abab"], ["aabb", "abab", "abba"], ["aaab"], ["aabc", "aaab"]]
        for texts, top in product(lists, (False, True)):
            strata = Strata(partings_of(texts), top=top, bottom=len(texts) != 2)
            for effect in every_parting(4):
                self.same(effect_place(strata, effect), slow_place(strata, effect))

    def test_by_hand(self):
        strata = Strata([parting("aabb")])
        self.same([effect_place(strata, parting(text)) for text in ("aaaa", "aabb", "abab", "abba", "aaab", "abcd")],
                  [0, 1, 2, 2, None, None])
        self.same(effect_place(strata=strata, effect=parting("abab")), 2)
        # The one-lot parting has zero effect tables alone, so the first stratum has them, whatever it is.
        self.same(effect_place(Strata([parting("aabb")], top=False), parting("aaaa")), 0)
        self.same(effect_place(Strata([parting("aabb")], top=False), parting("abab")), 1)
        self.same(effect_place(Strata([parting("aabb")], top=False), parting("aabb")), 0)
        self.same(effect_place(Strata([parting("aabb")], bottom=False), parting("abab")), None)
        self.same(effect_place(Strata([parting("a")]), parting("a")), 0)
        self.same(effect_place(Strata([parting("ab")]), parting("ab")), 1)

    def test_places_of_words(self):
        for house in HOUSES:
            for words in word_lists(house)[:12]:
                blocks = block_parting(house, words)
                strata = Strata([blocks])
                expected = []
                for word in house.leads:
                    held = blocks if word in confounded(house, words) else Parting.single(house.plots)
                    expected.append((word, strata.place(held)))
                self.same(effect_places(house, strata), expected)

    def test_places_in_a_structure(self):
        layout = [made for _, made in structure(read_formula("a*b*c"), [("a", 2), ("b", 2), ("c", 2)])]
        strata = Strata(layout)
        places = effect_places(house=CUBE, strata=strata)
        self.same([(word, place) for word, place in places], [
            (word, strata.place(Parting([tuple_text(word, point) for point in words_of(CUBE)])))
            for word in CUBE.leads])
        # Only a whole stratum holds no single word of two factors here.
        rows = Strata([parting("aabb"), parting("abcd")], bottom=False)
        self.same(effect_places(PAIR, rows), [((0, 1), 2), ((1, 0), 1), ((1, 1), 2)])
        self.same(effect_places(PAIR, Strata([parting("aaab")])), [((0, 1), None), ((1, 0), None), ((1, 1), None)])

    def test_unlike_counts(self):
        strata = Strata([parting("aabb")])
        self.refuses(UnlikePlots(4, 3), effect_place, strata, parting("aaa"))
        self.refuses(UnlikePlots(4, 3), effect_place, strata, parting("abc"))
        self.refuses(UnlikePlots(8, 4), effect_places, CUBE, strata)
        effect_places(PAIR, strata).clear()
        self.same(len(effect_places(PAIR, strata)), 3)


def tuple_text(word, point):
    return " ".join(str(level) for exponent, level in zip(word, point) if exponent)


def slow_choice(house, count, keep):
    """The least of all right tuples."""
    kept = {tuple(word) for word in keep if any(word)}
    right = [chosen for chosen in combinations(house.leads, count)
             if len(slow_generated(house, chosen)) == house.prime ** count
             and not kept & set(slow_generated(house, chosen))]
    return min(right) if right else None


class ChooseTest(CrossTest):
    def check(self, house, count, keep):
        expected = slow_choice(house, count, keep)
        if expected is None:
            self.refuses(NoDesign(), choose_blocks, house, count, keep)
        else:
            self.same(choose_blocks(house, count, keep), expected)

    def test_examples(self):
        self.same(choose_blocks(Words(2, 2), 1, [(0, 1), (1, 0)]), ((1, 1),))
        self.same(choose_blocks(house=PAIR, count=1), ((0, 1),))
        self.same(choose_blocks(PAIR, 2), ((0, 1), (1, 0)))
        self.same(choose_blocks(PAIR, count=1, keep=[[0, 1]]), ((1, 0),))

    def test_all_choices(self):
        for house in HOUSES:
            lists = word_lists(house)[:16] if house.plots < 10 else word_lists(house)[6:10]
            for count, words in product(range(house.factors + 2), lists):
                self.check(house, count, words)

    def test_the_least_word_at_each_place_misses_the_answer(self):
        # (0, 0, 1) is right alone, but generates a word of the list with each word that may stand behind it.
        keep = [(0, 1, 0), (1, 0, 0), (1, 1, 1)]
        self.same(choose_blocks(CUBE, 1, keep), ((0, 0, 1),))
        self.same(choose_blocks(CUBE, 2, keep), ((0, 1, 1), (1, 0, 1)))
        misses = 0
        for keep in combinations(CUBE.leads, 3):
            first = slow_choice(CUBE, 1, keep)
            both = slow_choice(CUBE, 2, keep)
            misses += both is not None and both[0] != first[0]
            self.check(CUBE, 2, keep)
        self.assertGreater(misses, 0)

    def test_keep(self):
        # Empty words are skipped, and a word that is no lead word counts as it is.
        self.same(choose_blocks(PAIR, 1, [(0, 0), [0, 0]]), ((0, 1),))
        self.same(choose_blocks(NINE, 1, [(0, 2)]), ((1, 0),))
        self.same(choose_blocks(NINE, 1, [(0, 2), (2, 0), (2, 2)]), ((1, 2),))
        self.refuses(NoDesign(), choose_blocks, NINE, 1, [(0, 2), (2, 0), (2, 2), (2, 1)])
        self.refuses(NoDesign(), choose_blocks, NINE, 2, [(1, 2)])

    def test_counts(self):
        for house in HOUSES:
            self.same(choose_blocks(house, 0), ())
            self.same(choose_blocks(house, 0, house.all_words[:16]), ())
            for count in (house.factors + 1, 17, BIG, 10 ** 40 - 1):
                self.refuses(NoDesign(), choose_blocks, house, count)

    def test_wrong_words_come_first(self):
        for count in (0, 1, 5, BIG):
            self.refuses(TooMany("words", 16), choose_blocks, CUBE, count, [None] * 17)
            self.refuses(BadWord(1), choose_blocks, CUBE, count, [[0, 0, 1], [0, 5, 0]])
            self.refuses(BadWord(4), choose_blocks, CUBE, count, [[0, 0, 1], [0, 5, 0, 0]])
        self.same(choose_blocks(CUBE, 1, [[0, 0, 0]] * 16), ((0, 0, 1),))

    def test_arguments_stay(self):
        keep = [[0, 1], [0, 0]]
        choose_blocks(PAIR, 1, keep)
        self.same(keep, [[0, 1], [0, 0]])

    def test_a_closure_of_word_partings(self):
        # Joins of the partings of unequal lead words are the one-lot parting alone.
        self.same(len(closure([NINE.word_parting(word) for word in NINE.leads])), 5)
