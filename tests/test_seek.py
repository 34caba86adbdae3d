from itertools import combinations, permutations, product

from crossmeans.errors import BadPaper, NoDesign, NoPlots, TooMany
from crossmeans.estimable import balance
from crossmeans.meetings import all_orthogonal
from crossmeans.partings import Parting
from crossmeans.seek import (are_mates, block_partings, is_block_design, is_latin, latin_squares, mates, seek_blocks,
                             split_plot, square_partings)
from crossmeans.strata import Strata
from tests.helpers import ANY_VALUES, BIG, CrossTest

CYCLE = ((0, 1, 2), (1, 2, 0), (2, 0, 1))
TURNED = ((0, 1, 2), (2, 0, 1), (1, 2, 0))
ONE = ((0,),)
FANO = ((0, 1, 2), (0, 3, 4), (0, 5, 6), (1, 3, 5), (1, 4, 6), (2, 3, 6), (2, 4, 5))
# Values as in point 8 that are no squares and no designs, some of them nearly.
SPOILT_SQUARES = ANY_VALUES + (
    list(CYCLE), tuple(map(list, CYCLE)), CYCLE[:2], CYCLE + ((0, 1, 2),), tuple(row[:2] for row in CYCLE),
    ((0, 1, 2), (1, 2, 0), (2, 0, 3)), ((1, 2, 3), (2, 3, 1), (3, 1, 2)), ((0, 1, 2), (1, 2, 0), (2, 0, -2)),
    ((0, 1, 2), (1, 2, 0), (2, 0, True)), ((0, 1, 2), (1, 2, 0), (2, False, 1)), ((False, True), (True, False)),
    ((0, 1, 2), (1, 2, 0), (2, 0, "1")), ((0, 1, 2), (1, 2, 0), (2, 0, None)), ((0, 1, 2), (1, 2, 0), (2, 0, [1])),
    ((0, 1, 2), (1, 2, 0), (2, 0, (1,))), ((0, 1, 2), (1, 2, 0), "201"), ((0, 1, 2), (1, 2, 0), None),
    ((0, 1, 2), (1, 2, 0), 5), ((0, 1), (0, 1)), ((0, 0), (1, 1)), ((1,),), ((BIG,),), ((),), ((0,), (0,)),
    ((0, 1),), ((0, 1, 2), (1, 2, 0), (2, 1, 0)), ("0",), (None,) * 16, ((0,) * 40,) * 40, ((0, 1), (1, 0, 0)))


def slow_latin(square):
    numbers = set(range(len(square)))
    return all(set(line) == numbers for line in list(square) + list(zip(*square)))


def slow_mates(first, second):
    size = len(first)
    return len({(first[i][j], second[i][j]) for i, j in product(range(size), repeat=2)}) == size * size


def cyclic(size, step=1):
    return tuple(tuple((row * step + column) % size for column in range(size)) for row in range(size))


class LatinTest(CrossTest):
    def test_all_squares(self):
        for size, count in ((1, 1), (2, 2), (3, 12), (4, 576)):
            found = latin_squares(size)
            self.assertIs(type(found), list)
            self.assertEqual(len(found), count)
            self.assertEqual(found, sorted(set(found)))
            for square in found:
                self.same(is_latin(square), True)
                self.assertTrue(slow_latin(square))
            if size < 4:
                rows = product(permutations(range(size)), repeat=size)
                self.same(found, [square for square in rows if slow_latin(square)])
        self.same(latin_squares(size=2), [((0, 1), (1, 0)), ((1, 0), (0, 1))])
        latin_squares(2).clear()
        self.same(len(latin_squares(2)), 2)

    def test_counts(self):
        for size in (0, -1, -BIG):
            self.refuses(NoPlots(), latin_squares, size)
        for size in (5, 17, BIG):
            self.refuses(TooMany("size", 4), latin_squares, size)

    def test_is_latin(self):
        for square in (ONE, CYCLE, TURNED) + tuple(cyclic(size) for size in range(1, 17)):
            self.same(is_latin(square=square), True)
        self.same(is_latin(cyclic(17)), False)
        self.same(is_latin(cyclic(40)), False)
        for value in SPOILT_SQUARES:
            self.same(is_latin(value), False)
        rows = list(product((0, 1, 2), repeat=3))[::2]
        for square in product(rows, repeat=3):
            self.same(is_latin(square), slow_latin(square))

    def test_are_mates(self):
        squares = latin_squares(3)
        for first, second in product(squares, repeat=2):
            self.same(are_mates(first, second), slow_mates(first, second))
        self.same(are_mates(first=CYCLE, second=TURNED), True)
        self.same(are_mates(ONE, ONE), True)
        self.same(are_mates(CYCLE, CYCLE), False)
        self.same(are_mates(CYCLE, cyclic(4)), False)
        self.same(are_mates(ONE, CYCLE), False)
        self.same(are_mates(CYCLE, ONE), False)
        self.same(are_mates(cyclic(7), cyclic(7, 3)), True)
        self.same(are_mates(cyclic(16), cyclic(16)), False)
        for value in SPOILT_SQUARES:
            self.same(are_mates(value, CYCLE), False)
            self.same(are_mates(CYCLE, value), False)
            self.same(are_mates(value, value), False)

    def test_mates(self):
        self.same(mates(square=ONE), [ONE])
        for square in latin_squares(2):
            self.same(mates(square), [])
        for square in latin_squares(3):
            self.same(mates(square), [other for other in latin_squares(3) if slow_mates(square, other)])
        counts = []
        for square in latin_squares(4)[::60]:
            found = mates(square)
            counts.append(len(found))
            self.same(found, [other for other in latin_squares(4) if slow_mates(square, other)])
        self.assertEqual(set(counts), {0, 48})
        mates(ONE).clear()
        self.same(mates(ONE), [ONE])

    def test_square_partings(self):
        for square in latin_squares(1) + latin_squares(2) + latin_squares(3) + latin_squares(4)[::100]:
            size = len(square)
            made = square_partings(square)
            self.assertIs(type(made), list)
            places = list(product(range(size), repeat=2))
            for own, labels in zip(made, ([i for i, _ in places], [j for _, j in places],
                                          [square[i][j] for i, j in places])):
                self.assertTrue(own == Parting(labels))
            self.assertTrue(all_orthogonal(made))
        self.same([own.names for own in square_partings(square=((0, 1), (1, 0)))],
                  [(0, 0, 2, 2), (0, 1, 0, 1), (0, 1, 1, 0)])

    def test_wrong_squares(self):
        for call in (mates, square_partings):
            for value in SPOILT_SQUARES + (cyclic(17),):
                self.refuses(BadPaper(), call, value)
            for size in (5, 16):
                self.refuses(TooMany("size", 4), call, cyclic(size))


def slow_design(blocks, treatments, size, together):
    if not blocks or list(blocks) != sorted(blocks):
        return False
    if any(list(block) != sorted(set(block)) or len(block) != size for block in blocks):
        return False
    if any(not 0 <= treatment < treatments for block in blocks for treatment in block):
        return False
    return all(sum({a, b} <= set(block) for block in blocks) == together
               for a, b in combinations(range(treatments), 2))


def slow_seek(treatments, size, together):
    """The least design, by trying each block at each place in ascending order."""
    blocks = list(combinations(range(treatments), size))

    def search(begun, start, counts):
        if min(counts.values()) == together:
            return tuple(begun)
        for at in range(start, len(blocks)):
            inner = list(combinations(blocks[at], 2))
            if all(counts[pair] < together for pair in inner):
                found = search(begun + [blocks[at]], at, {**counts, **{pair: counts[pair] + 1 for pair in inner}})
                if found:
                    return found
        return None
    return search([], 0, {pair: 0 for pair in combinations(range(treatments), 2)})


class BlocksTest(CrossTest):
    def test_examples(self):
        self.same(seek_blocks(4, 3, 2), ((0, 1, 2), (0, 1, 3), (0, 2, 3), (1, 2, 3)))
        self.same(seek_blocks(treatments=7, size=3, together=1), FANO)
        self.same(seek_blocks(2, 2, 2), ((0, 1), (0, 1)))

    def test_all_numbers_within_the_limits(self):
        found = 0
        for treatments, size, together in product(range(2, 8), range(2, 5), (1, 2)):
            least = slow_seek(treatments, size, together) if size <= treatments else None
            if least is None:
                self.refuses(NoDesign(), seek_blocks, treatments, size, together)
                continue
            found += 1
            self.same(seek_blocks(treatments, size, together), least)
            self.assertTrue(slow_design(least, treatments, size, together))
            self.same(is_block_design(least, treatments, size, together), True)
        self.assertEqual(found, 21)

    def test_least_ones_that_are_known(self):
        self.same(seek_blocks(7, 4, 2), ((0, 1, 2, 3), (0, 1, 4, 5), (0, 2, 4, 6), (0, 3, 5, 6), (1, 2, 5, 6),
                                         (1, 3, 4, 6), (2, 3, 4, 5)))
        self.same(seek_blocks(7, 3, 2), tuple(sorted(FANO + FANO)))
        self.same(seek_blocks(6, 3, 2), ((0, 1, 2), (0, 1, 3), (0, 2, 4), (0, 3, 5), (0, 4, 5), (1, 2, 5), (1, 3, 4),
                                         (1, 4, 5), (2, 3, 4), (2, 3, 5)))

    def test_no_design(self):
        for numbers in ((1, 2, 1), (0, 2, 1), (-BIG, 2, 1), (7, 1, 1), (7, 0, 2), (7, -BIG, 1), (7, 3, 0), (7, 3, -1),
                        (2, 3, 1), (3, 4, 2), (1, 1, 1), (5, 3, 1), (6, 3, 1), (5, 4, 2), (6, 4, 2), (7, 4, 1)):
            self.refuses(NoDesign(), seek_blocks, *numbers)

    def test_too_many(self):
        self.refuses(TooMany("treatments", 7), seek_blocks, 8, 5, 3)
        self.refuses(TooMany("treatments", 7), seek_blocks, BIG, 0, 0)
        self.refuses(TooMany("size", 4), seek_blocks, 7, 5, 3)
        self.refuses(TooMany("size", 4), seek_blocks, 1, BIG, 3)
        self.refuses(TooMany("together", 2), seek_blocks, 7, 3, 3)
        self.refuses(TooMany("together", 2), seek_blocks, 0, 0, BIG)

    def test_is_block_design(self):
        self.same(is_block_design(blocks=FANO, treatments=7, size=3, together=1), True)
        self.same(is_block_design(((0, 1), (0, 1), (0, 1)), 2, 2, 3), True)
        self.same(is_block_design((tuple(range(16)),), 16, 16, 1), True)
        # A right one that is not the least.
        other = ((0, 1, 3), (0, 2, 5), (0, 4, 6), (1, 2, 4), (1, 5, 6), (2, 3, 6), (3, 4, 5))
        self.same(is_block_design(other, 7, 3, 1), True)
        blocks = list(combinations(range(4), 3))
        for length in range(6):
            for design in product(blocks, repeat=length):
                if length < 4 or list(design) == sorted(design):
                    for together in (1, 2, 3):
                        self.same(is_block_design(design, 4, 3, together), slow_design(design, 4, 3, together))

    def test_all_small_tuples_of_blocks(self):
        for treatments, size, most in ((3, 2, 3), (2, 3, 2), (3, 3, 2), (3, 1, 2), (2, 2, 4)):
            blocks = list(product(range(treatments), repeat=size))
            for length in range(most + 1):
                for design in product(blocks, repeat=length):
                    for together in (1, 2):
                        right = slow_design(design, treatments, size, together)
                        self.same(is_block_design(design, treatments, size, together), right)
        # Blocks of other sizes, by which each two treatments are together as often as is told.
        self.same(is_block_design(((0, 1, 2),), 3, 2, 1), False)
        self.same(is_block_design(((0, 1, 2), (0, 3), (1, 3), (2, 3)), 4, 2, 1), False)

    def test_spoilt_designs(self):
        for at in range(7):
            for block in ((0, 1, 3), (2, 1, 0), (0, 0, 1), (0, 1), (0, 1, 2, 3), [0, 1, 2], "012", None, 1, (0, 1, 7),
                          (-1, 0, 1), (0, True, 2), (False, 1, 2), (0, 1, "2"), (0, 1, None), (0, 1, [2]), (0, 1, (2,)),
                          (0, 1, BIG), ()):
                self.same(is_block_design(FANO[:at] + (block,) + FANO[at + 1:], 7, 3, 1), False)
            self.same(is_block_design(FANO[:at] + FANO[at + 1:], 7, 3, 1), False)
        for value in ANY_VALUES + (list(FANO), FANO + FANO[:1], FANO[::-1], FANO[1:] + FANO[:1]):
            self.same(is_block_design(value, 7, 3, 1), False)
        for numbers in ((7, 3, 2), (6, 3, 1), (8, 3, 1), (7, 2, 1), (7, 4, 1), (16, 16, 16), (2, 16, 1)):
            self.same(is_block_design(FANO, *numbers), False)
        self.same(is_block_design((), 2, 2, 1), False)
        self.same(is_block_design(((0, 1),) * 40, 2, 2, 16), False)


class PartingsTest(CrossTest):
    def test_block_partings(self):
        made = block_partings(blocks=[[5, -3], (5,), [BIG, 5, -3, 5]])
        self.assertIs(type(made), list)
        self.same([own.names for own in made], [(0, 0, 2, 3, 3, 3, 3), (0, 1, 0, 3, 0, 1, 0)])
        self.same([own.names for own in block_partings([(7,)])], [(0,), (0,)])
        self.same([own.names for own in block_partings([[1, 1], [1, 1]])], [(0, 0, 2, 2), (0, 0, 0, 0)])
        self.same(block_partings([[plot] for plot in range(16)])[0].many, 16)
        self.same(block_partings([range_list(16)])[1].many, 16)

    def test_a_sought_design_is_balanced(self):
        for numbers in ((3, 2, 1), (4, 3, 2), (4, 2, 1)):
            blocks, treatments = block_partings(seek_blocks(*numbers))
            self.assertIsNotNone(balance(Strata([blocks]), treatments))

    def test_wrong_blocks(self):
        for blocks in ([], (), [[]], [[1], []], [[]] + [[1]] * 50, [[1] * 50, []]):
            self.refuses(NoPlots(), block_partings, blocks)
        for blocks in ([[1] * 17], [[1]] * 17, [[1] * 16, [2]], [[0] * 100] * 100):
            self.refuses(TooMany("plots", 16), block_partings, blocks)

    def test_nothing_is_shared(self):
        blocks = [[1, 2], [2, 1]]
        made = block_partings(blocks)
        blocks[0].append(3)
        block_partings(blocks)
        self.same(blocks, [[1, 2, 3], [2, 1]])
        self.same([own.names for own in made], [(0, 0, 2, 2), (0, 1, 1, 0)])

    def test_split_plots(self):
        for blocks, wholes, subs in product(range(1, 17), repeat=3):
            if blocks * wholes * subs > 16:
                self.refuses(TooMany("plots", 16), split_plot, blocks, wholes, subs)
                continue
            made = split_plot(blocks, wholes, subs)
            self.assertIs(type(made), tuple)
            self.assertEqual([type(part) for part in made], [list, list])
            plots = [None] * (blocks * wholes * subs)
            for b, w, s in product(range(blocks), range(wholes), range(subs)):
                plots[(b * wholes + w) * subs + s] = (b, w, s)
            labels = [[str(plot[0]) for plot in plots], [str(plot[:2]) for plot in plots],
                      [str(plot[1]) for plot in plots], [str(plot[2]) for plot in plots],
                      [str(plot[1:]) for plot in plots]]
            self.assertEqual([len(part) for part in made], [2, 3])
            for own, expected in zip(made[0] + made[1], labels):
                self.assertTrue(own == Parting(expected))
        self.same([own.names for own in split_plot(blocks=1, wholes=2, subs=2)[1]],
                  [(0, 0, 2, 2), (0, 1, 0, 1), (0, 1, 2, 3)])

    def test_wrong_split_plots(self):
        for numbers in ((0, 1, 1), (1, 0, 1), (1, 1, 0), (-1, -1, 1), (17, 17, 0), (-5, -4, 1), (-17, 1, -1), (BIG, -BIG, BIG), (-BIG, 17, 1)):
            self.refuses(NoPlots(), split_plot, *numbers)
        for numbers in ((17, 1, 1), (1, 17, 1), (1, 1, 17), (2, 3, 3), (BIG, BIG, 1), (1, 1, BIG)):
            self.refuses(TooMany("plots", 16), split_plot, *numbers)


def range_list(count):
    return list(range(count))
