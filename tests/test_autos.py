from fractions import Fraction
from itertools import permutations, product

from crossmeans.autos import (average_products, compose, inverse, keeps, move_parting, move_table, orbits, pair_classes,
                              pair_orbits, rearrangements)
from crossmeans.crossnest import structure
from crossmeans.errors import BadArrangement, NoPlots, TooMany, UnlikePlots
from crossmeans.formread import read_formula
from crossmeans.partings import Parting
from crossmeans.strata import Strata
from crossmeans.tables import Table
from tests.helpers import (BIG, NO_WHOLE, CrossTest, every_parting, fraction, mixed_lists, numbers, pair_of, parting,
                           partings_of)

LAYOUTS = (("a*b", (2, 2)), ("a/b", (2, 2)), ("a", (4,)), ("a/b", (2, 3)), ("a*b", (2, 3)), ("a/b", (3, 2)),
           ("a*b*c", (2, 2, 2)), ("a/b*c", (2, 2, 2)), ("(a*b)/c", (2, 2, 2)))


def layout(text, levels):
    """The partings of the structure."""
    return [made for _, made in structure(read_formula(text), list(zip("abc", levels)))]


def slow_keeps(images, made):
    plots = range(len(images))
    return all((made.names[p] == made.names[q]) == (made.names[images[p]] == made.names[images[q]])
               for p, q in product(plots, repeat=2))


def numbered(rows):
    """The keys of the rows by the order of first occurrence."""
    keys = []
    for row in rows:
        keys.extend(key for key in row if key not in keys)
    return [[keys.index(key) for key in row] for row in rows]


def slow_pair_orbits(arrangements):
    plots = range(len(arrangements[0]))
    label = {pair: pair for pair in product(plots, repeat=2)}
    for _ in range(len(label)):
        for images in arrangements:
            for p, q in label:
                image = (images[p], images[q])
                label[p, q] = label[image] = min(label[p, q], label[image])
    return numbered([[label[p, q] for q in plots] for p in plots])


def mixed_arrangements(seed, plots, count):
    listed = list(permutations(range(plots)))
    return [listed[at] for at in numbers(seed, count, 0, len(listed) - 1)]


def bad_entries(plots):
    """Entries that are no plots, at any place."""
    return NO_WHOLE + (-1, plots, BIG, -BIG)


class ArrangementTest(CrossTest):
    def test_compose(self):
        for first, second in product(permutations(range(3)), repeat=2):
            self.same(compose(list(first), second), tuple(second[first[p]] for p in range(3)))
        self.same(compose((1, 2, 0), [0, 2, 1]), (2, 1, 0))
        self.same(compose(first=[1, 0], second=[0, 1]), (1, 0))
        self.same(compose([0], [0]), (0,))

    def test_inverse(self):
        for images in permutations(range(4)):
            back = inverse(list(images))
            self.same(compose(images, back), (0, 1, 2, 3))
            self.same(compose(back, images), (0, 1, 2, 3))
        self.same(inverse(arrangement=(1, 2, 0)), (2, 0, 1))
        self.same(inverse(list(range(15, -1, -1))), tuple(range(15, -1, -1)))

    def test_keeps_and_moves(self):
        for images in permutations(range(4)):
            table = Table([1, (1, 2), -3, 7])
            moved = move_table(list(images), table)
            for p in range(4):
                self.same(moved.cells[images[p]], table.cells[p])
            for made in every_parting(4):
                self.same(keeps(images, made), slow_keeps(images, made))
                image = move_parting(images, made)
                for p, q in product(range(4), repeat=2):
                    self.assertEqual(image.together(images[p], images[q]), made.together(p, q))
        self.same(move_table(arrangement=[1, 2, 0], table=Table([1, 2, 3])).cells, ((3, 1), (1, 1), (2, 1)))
        self.same(move_parting(arrangement=[1, 2, 0], parting=parting("aab")).names, (0, 1, 1))
        self.same(keeps(arrangement=[1, 0, 2], parting=parting("aab")), True)
        self.same(keeps([1, 2, 0], parting("aab")), False)

    def test_wrong_arrangements(self):
        wide, table = parting("a" * 16), Table([1] * 16)
        calls = (inverse, lambda images: keeps(images, wide), lambda images: move_table(images, table),
                 lambda images: move_parting(images, wide), lambda images: compose(images, [None]),
                 lambda images: compose([0], images))
        for call in calls:
            for empty in ([], ()):
                self.refuses(NoPlots(), call, empty)
            for count in (17, 100):
                self.refuses(TooMany("plots", 16), call, [None] * count)
                self.refuses(TooMany("plots", 16), call, list(range(count)))
            for value in bad_entries(3):
                self.refuses(BadArrangement(0), call, [value, None, 0])
                self.refuses(BadArrangement(1), call, [2, value, 2])
                self.refuses(BadArrangement(2), call, (2, 0, value))
            self.refuses(BadArrangement(1), call, [1, 1, None])
            self.refuses(BadArrangement(2), call, [0, 1, 0])

    def test_unlike_counts(self):
        self.refuses(UnlikePlots(2, 3), compose, [1, 0], [0, 1, 2])
        self.refuses(UnlikePlots(3, 2), compose, [0, 1, 2], [1, 0])
        self.refuses(UnlikePlots(2, 3), keeps, [1, 0], parting("abc"))
        self.refuses(UnlikePlots(2, 3), move_table, [1, 0], Table([1, 2, 3]))
        self.refuses(UnlikePlots(2, 1), move_parting, [1, 0], parting("a"))

    def test_arguments_stay(self):
        images = [1, 0]
        compose(images, images), inverse(images), keeps(images, parting("ab")), move_table(images, Table([1, 2]))
        orbits([images]), pair_orbits([images]), average_products([images], Table([1, 2]))
        self.same(images, [1, 0])


class RearrangementsTest(CrossTest):
    def test_example(self):
        self.same(rearrangements([Parting([0, 0, 1])]), [(0, 1, 2), (1, 0, 2)])

    def test_all(self):
        for listed in mixed_lists(4, 40, 4) + mixed_lists(5, 10, 3):
            expected = [images for images in permutations(range(listed[0].plots))
                        if all(slow_keeps(images, made) for made in listed)]
            self.same(rearrangements(listed), expected)
        self.same(rearrangements(partings=(parting("a"),)), [(0,)])

    def test_layouts(self):
        for text, levels in LAYOUTS:
            listed = layout(text, levels)
            found = rearrangements(listed)
            self.assertEqual(found, sorted(found))
            self.assertEqual(len(set(found)), len(found))
            # They are a group.
            members = set(found)
            self.assertIn(tuple(range(listed[0].plots)), members)
            for images in found[:12]:
                self.assertIn(inverse(images), members)
                for other in found[:12]:
                    self.assertIn(compose(images, other), members)
            self.assertTrue(all(slow_keeps(images, made) for images in found for made in listed))

    def test_the_limit(self):
        whole = [images for images in permutations(range(4))]
        self.same(rearrangements([parting("aaaa")]), whole)
        self.same(rearrangements([parting("abcd")], limit=24), whole)
        self.same(rearrangements([parting("abcd")], limit=400), whole)
        for limit in (1, 2, 23):
            self.refuses(TooMany("rearrangements", limit), rearrangements, [parting("abcd")], limit=limit)
        self.same(rearrangements([parting("aab")], limit=2), [(0, 1, 2), (1, 0, 2)])
        self.refuses(TooMany("rearrangements", 1), rearrangements, [parting("aab")], limit=1)
        self.same(len(rearrangements([parting("aaaaa")])), 120)
        self.refuses(TooMany("rearrangements", 400), rearrangements, [parting("aaaaaa")])
        self.same(len(rearrangements([parting("aabbcc"), parting("aaaabb")])), 16)
        self.refuses(TooMany("rearrangements", 400), rearrangements, [parting("aaaaaaaa")] * 16)
        for limit in (401, BIG):
            self.refuses(TooMany("limit", 400), rearrangements, [parting("a")], limit=limit)

    def test_eight_and_nine_plots(self):
        self.same(len(rearrangements([parting("aabbccdd")])), 384)
        self.same(len(rearrangements([parting("aaaabbcd"), parting("abababab")])), 8)
        self.same(len(rearrangements(partings_of(["abbbbbbb", "aabbbbbb", "aaabbbbb", "aaaabbbb", "aaaaabbb",
                                                  "aaaaaabb"]))), 2)
        for plots in (9, 16):
            self.refuses(TooMany("plots", 8), rearrangements, [Parting.single(plots)], limit=1)

    def test_errors_in_their_order(self):
        self.refuses(NoPlots(), rearrangements, [], limit=401)
        self.refuses(TooMany("partings", 16), rearrangements, [parting("ab")] * 17, limit=401)
        self.refuses(TooMany("limit", 400), rearrangements, [Parting.one(9), parting("ab")], limit=401)
        self.refuses(UnlikePlots(9, 2), rearrangements, [Parting.one(9), parting("ab")])
        self.refuses(UnlikePlots(2, 9), rearrangements, [parting("ab"), Parting.one(9)], limit=1)

    def test_lists_are_new(self):
        listed = [parting("aab")]
        rearrangements(listed).clear()
        self.same(len(rearrangements(listed)), 2)
        self.same(len(listed), 1)


class OrbitsTest(CrossTest):
    def test_orbits_by_hand(self):
        self.same(orbits([(0, 1, 2)]).names, (0, 1, 2))
        self.same(orbits([[1, 2, 0, 3]]).names, (0, 0, 0, 3))
        self.same(orbits(arrangements=([0, 2, 1, 3, 4], (0, 1, 2, 4, 3))).names, (0, 1, 1, 3, 3))
        self.same(orbits([(1, 0, 2), (0, 2, 1)]).names, (0, 0, 0))
        self.same(orbits([tuple(range(1, 16)) + (0,)]).many, 1)
        self.same(orbits([(7, 6, 5, 4, 3, 2, 1, 0)] * 400).names, (0, 1, 2, 3, 3, 2, 1, 0))

    def test_orbits(self):
        for seed in range(40):
            plots = 2 + seed % 4
            listed = mixed_arrangements(seed, plots, 1 + seed % 2)
            label = list(range(plots))
            for _ in range(plots):
                for images in listed:
                    for plot, image in enumerate(images):
                        label[plot] = label[image] = min(label[plot], label[image])
            self.same(orbits(listed).names, tuple(label.index(name) for name in label))

    def test_pair_orbits_by_hand(self):
        self.same(pair_orbits([(0, 1)]), [[0, 1], [2, 3]])
        self.same(pair_orbits([(1, 0)]), [[0, 1], [1, 0]])
        self.same(pair_orbits(arrangements=[[1, 2, 0]]), [[0, 1, 2], [2, 0, 1], [1, 2, 0]])
        self.same(pair_orbits([[1, 2, 0], (1, 0, 2)]), [[0, 1, 1], [1, 0, 1], [1, 1, 0]])
        self.same(pair_orbits([[0]]), [[0]])

    def test_pair_orbits(self):
        for seed in range(40):
            listed = mixed_arrangements(seed, 2 + seed % 4, 1 + seed % 3)
            self.same(pair_orbits(listed), slow_pair_orbits(listed))
        self.same(len(pair_orbits([tuple(range(8))] * 400)), 8)

    def test_pair_classes(self):
        self.same(pair_classes([Parting([0, 0, 1])]), [[0, 0, 1], [0, 0, 1], [1, 1, 0]])
        self.same(pair_classes(partings=(parting("ab"),)), [[0, 1], [1, 0]])
        self.same(pair_classes([parting("aa")]), [[0, 0], [0, 0]])
        for listed in mixed_lists(4, 40, 5):
            keys = [[[at for at, made in enumerate(listed) if made.names[p] == made.names[q]] for q in range(4)]
                    for p in range(4)]
            self.same(pair_classes(listed), numbered(keys))
        self.same(pair_classes([Parting.single(16), Parting.one(16)] * 8)[15], [1] * 15 + [0])

    def test_classes_are_orbits_in_layouts(self):
        for text, levels in LAYOUTS:
            listed = layout(text, levels)
            self.same(pair_orbits(rearrangements(listed)), pair_classes(listed))

    def test_pair_class_errors(self):
        self.refuses(NoPlots(), pair_classes, [])
        self.refuses(TooMany("partings", 16), pair_classes, [parting("ab")] * 17)
        self.refuses(UnlikePlots(3, 2), pair_classes, [parting("aab"), parting("ab"), parting("a")])

    def test_wrong_lists(self):
        calls = (orbits, pair_orbits, lambda arrangements: average_products(arrangements, Table([1] * 9)))
        for call in calls:
            self.refuses(NoPlots(), call, [])
            self.refuses(NoPlots(), call, ())
            self.refuses(TooMany("arrangements", 400), call, [[None]] * 401)
            self.refuses(NoPlots(), call, [[1, 0], [], [None]])
            self.refuses(TooMany("plots", 16), call, [[0], [None] * 17, []])
            self.refuses(BadArrangement(2), call, [[1, 0], [0, 2, 2], [None]])
            for value in bad_entries(2):
                self.refuses(BadArrangement(1), call, [[1, 0], [0, value], []])
            self.refuses(BadArrangement(0), call, [[0]] * 399 + [[1]])
            self.refuses(UnlikePlots(2, 3), call, [[1, 0], [0, 2, 1], [0]])
        self.refuses(UnlikePlots(9, 1), pair_orbits, [list(range(9)), [0]])
        for plots in (9, 16):
            self.refuses(TooMany("plots", 8), pair_orbits, [list(range(plots))])
        self.same(orbits([list(range(16))]).many, 16)

    def test_lists_are_new(self):
        for call in (lambda: pair_orbits([(0, 1)]), lambda: pair_classes([parting("ab")]),
                     lambda: average_products([(0, 1)], Table([1, 1]))):
            made = call()
            kept = [list(row) for row in made]
            self.assertEqual(len({id(row) for row in made}), 2)
            made[0].clear()
            made[1][0] = None
            self.same(call(), kept)


class AverageTest(CrossTest):
    def test_averages(self):
        for seed in range(30):
            plots, count = 1 + seed % 4, 1 + seed % 5
            listed = mixed_arrangements(seed, plots, count)
            table = Table([(number, 1 + seed % 3) for number in numbers(seed, plots, -9, 9)])
            cells = [fraction(cell) for cell in table.cells]
            expected = [[pair_of(sum((cells[images[p]] * cells[images[q]] for images in listed), Fraction(0)) / count)
                         for q in range(plots)] for p in range(plots)]
            self.same(average_products(listed, table), expected)

    def test_by_hand(self):
        self.same(average_products(arrangements=[[0, 1], (1, 0)], table=Table([1, 2])), [[(5, 2), (2, 1)], [(2, 1), (5, 2)]])
        # A repeated arrangement counts each time.
        self.same(average_products([[0, 1], [1, 0], [0, 1]], Table([1, 2])), [[(2, 1), (2, 1)], [(2, 1), (3, 1)]])

    def test_spectral_matrices(self):
        for text, levels in LAYOUTS:
            listed = layout(text, levels)
            group = rearrangements(listed)
            if len(group) <= 72:
                table = Table(numbers(len(text), listed[0].plots, -9, 9))
                self.same(average_products(group, table), Strata(listed).spectral_matrix(table))

    def test_limits(self):
        table = Table([1, 2])
        self.same(average_products([[1, 0]] * 72, table), [[(4, 1), (2, 1)], [(2, 1), (1, 1)]])
        self.refuses(TooMany("arrangements", 72), average_products, [[1, 0]] * 73, table)
        self.refuses(TooMany("arrangements", 72), average_products, [[1, 0]] * 400, table)
        self.refuses(TooMany("arrangements", 400), average_products, [[1, 0]] * 401, table)
        self.refuses(TooMany("plots", 8), average_products, [list(range(9))], Table([1] * 9))
        self.refuses(TooMany("arrangements", 72), average_products, [list(range(9))] * 73, Table([1] * 9))
        self.same(len(average_products([list(range(8))] * 72, Table([BIG] * 8))), 8)

    def test_errors_in_their_order(self):
        short = Table([1])
        self.refuses(BadArrangement(0), average_products, [[1, 0]] * 73 + [[None]], short)
        self.refuses(UnlikePlots(2, 3), average_products, [[1, 0]] * 73 + [[0, 1, 2]], short)
        self.refuses(UnlikePlots(2, 1), average_products, [[1, 0]] * 73, short)
        self.refuses(UnlikePlots(9, 1), average_products, [list(range(9))] * 73, short)
