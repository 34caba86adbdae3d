from itertools import permutations, product

from crossmeans.autos import compose, rearrangements
from crossmeans.dealings import count_dealings, deal_all, deal_by, fixing, lot_dealings
from crossmeans.errors import BadArrangement, BadLabel, NoDealing, NoPlots, TooMany, UnlikePlots
from crossmeans.partings import Parting
from tests.helpers import BIG, NO_WHOLE, CrossTest, every_parting, parting, partings_of

BAD_TREATMENTS = NO_WHOLE + (-1, 16, BIG, -BIG)


def slow_deal(images, design):
    dealt = [None] * len(design)
    for plot, image in enumerate(images):
        dealt[image] = design[plot]
    return tuple(dealt)


def slow_dealings(made, treatments, balanced):
    """All designs of the parting, from all designs of the plots."""
    found = []
    for design in product(range(treatments), repeat=made.plots):
        lots = [{design[plot] for plot in lot} for lot in made.lots]
        counts = [lots.count({treatment}) for treatment in range(treatments)]
        if all(len(lot) == 1 for lot in lots) and all(counts) and not (balanced and len(set(counts)) > 1):
            found.append(design)
    return found


class DealTest(CrossTest):
    def test_deal_by(self):
        for images in permutations(range(4)):
            for design in ([0, 1, 2, 3], (0, 0, 15, 7), [3, 3, 3, 3]):
                self.same(deal_by(images, design), slow_deal(images, design))
        self.same(deal_by(arrangement=[1, 2, 0], design=(4, 5, 6)), (6, 4, 5))
        self.same(deal_by([0], [15]), (15,))
        # First dealing by one arrangement, then by the other, is dealing by their composition.
        self.same(deal_by([0, 2, 1], deal_by([1, 2, 0], [7, 8, 9])), deal_by(compose([1, 2, 0], [0, 2, 1]), [7, 8, 9]))

    def test_deal_all_and_fixing(self):
        for texts in (["aabb"], ["aabb", "abab"], ["aaab"], ["abcd"]):
            group = rearrangements(partings_of(texts))
            for design in ([0, 0, 1, 1], (0, 1, 0, 2), [5, 5, 5, 5], [0, 1, 2, 3]):
                dealt = deal_all(group, design)
                fixed = fixing(group, design)
                self.same(dealt, sorted({slow_deal(images, design) for images in group}))
                self.same(fixed, [images for images in group if slow_deal(images, design) == tuple(design)])
                self.assertEqual(len(dealt) * len(fixed), len(group))

    def test_any_list_of_arrangements(self):
        listed = [[1, 0, 2], (0, 1, 2), [1, 0, 2], [2, 1, 0], (0, 1, 2)]
        self.same(fixing(listed, [7, 7, 8]), [(1, 0, 2), (0, 1, 2), (1, 0, 2), (0, 1, 2)])
        self.same(fixing(arrangements=listed, design=(7, 8, 9)), [(0, 1, 2), (0, 1, 2)])
        self.same(fixing([[1, 0]], [0, 1]), [])
        self.same(deal_all(listed, [7, 7, 8]), [(7, 7, 8), (8, 7, 7)])
        self.same(deal_all(arrangements=[[1, 0]], design=(10, 9)), [(9, 10)])
        self.same(fixing([(1, 2, 0)], (0, 1, 0)), [])
        self.same(deal_all([tuple(range(16))] * 400, [15] * 16), [(15,) * 16])

    def test_wrong_designs(self):
        calls = (lambda design: deal_by([0], design), lambda design: deal_all([[0]], design),
                 lambda design: fixing([[0]], design))
        for call in calls:
            self.refuses(NoPlots(), call, [])
            self.refuses(NoPlots(), call, ())
            self.refuses(TooMany("plots", 16), call, [None] * 17)
            for value in BAD_TREATMENTS:
                self.refuses(BadLabel(0), call, [value, None])
                self.refuses(BadLabel(2), call, (0, 15, value))
            self.refuses(UnlikePlots(1, 2), call, [0, 0])

    def test_wrong_arrangements(self):
        self.refuses(NoPlots(), deal_by, [], [None])
        self.refuses(TooMany("plots", 16), deal_by, list(range(17)), [None])
        self.refuses(BadArrangement(1), deal_by, [1, 1], [])
        self.refuses(UnlikePlots(2, 3), deal_by, [1, 0], [1, 1, 1])
        for call in (deal_all, fixing):
            self.refuses(NoPlots(), call, [], [None])
            self.refuses(TooMany("arrangements", 400), call, [[None]] * 401, [None])
            self.refuses(BadArrangement(1), call, [[1, 0], [1, 1], []], [None])
            self.refuses(NoPlots(), call, [[1, 0], [], [1, 1]], [None])
            self.refuses(BadLabel(0), call, [[1, 0], [0]], [None])
            self.refuses(UnlikePlots(2, 1), call, [[1, 0], [0], [0, 1, 2]], [0, 0, 0])
            self.refuses(UnlikePlots(2, 3), call, [[1, 0], [0, 1]], [0, 0, 0])

    def test_nothing_is_shared(self):
        listed, design = [[1, 0], [0, 1]], [0, 0]
        for call in (deal_all, fixing):
            kept = call(listed, design)
            call(listed, design).clear()
            self.same(call(listed, design), kept)
        deal_by(listed[0], design)
        self.same((listed, design), ([[1, 0], [0, 1]], [0, 0]))
        made = fixing(listed, design)
        listed[0][0] = 9
        self.same(made, [(1, 0), (0, 1)])


class LotDealingsTest(CrossTest):
    def test_example(self):
        self.same(lot_dealings(Parting([0, 0, 1]), 2), [(0, 0, 1), (1, 1, 0)])

    def test_all(self):
        for made in every_parting(4):
            for treatments in range(-1, 6):
                for balanced in (False, True):
                    expected = slow_dealings(made, treatments, balanced) if treatments > 0 else []
                    self.same(count_dealings(made, treatments, balanced=balanced), len(expected))
                    if expected:
                        self.same(lot_dealings(made, treatments, balanced=balanced), expected)
                    else:
                        self.refuses(NoDealing(), lot_dealings, made, treatments, balanced=balanced)

    def test_by_keyword_and_by_default(self):
        self.same(lot_dealings(parting=parting("abb"), treatments=1), [(0, 0, 0)])
        self.same(len(lot_dealings(parting("abcd"), 2)), 14)
        self.same(len(lot_dealings(parting("abcd"), 2, balanced=True)), 6)
        self.same(count_dealings(parting=parting("abcd"), treatments=2), 14)
        self.same(count_dealings(parting("abcd"), 2, balanced=True), 6)

    def test_too_many(self):
        # 2 to the power of 9, 8 to the power of 3 and 512 to the power of 1 are at the limit.
        self.same(len(lot_dealings(Parting.single(9), 2)), 510)
        self.refuses(TooMany("dealings", 512), lot_dealings, Parting.single(10), 2)
        self.refuses(TooMany("dealings", 512), lot_dealings, Parting.single(10), 2, balanced=True)
        self.same(len(lot_dealings(Parting.single(5), 3)), 150)
        self.refuses(TooMany("dealings", 512), lot_dealings, Parting.single(6), 3)
        self.refuses(TooMany("dealings", 512), lot_dealings, Parting.single(5), 4)
        self.same(len(lot_dealings(Parting.single(4), 4)), 24)
        self.same(len(lot_dealings(Parting.single(4), 4, balanced=True)), 24)
        self.refuses(TooMany("dealings", 512), lot_dealings, Parting.single(5), 5, balanced=True)
        self.refuses(TooMany("dealings", 512), lot_dealings, Parting.single(16), 16)
        self.same(lot_dealings(Parting.single(16), 1), [(0,) * 16])

    def test_no_dealing_comes_first(self):
        for balanced in (False, True):
            for treatments in (0, -1, -BIG, 11, 17, BIG):
                self.refuses(NoDealing(), lot_dealings, Parting.single(10), treatments, balanced=balanced)
                self.same(count_dealings(Parting.single(10), treatments, balanced=balanced), 0)
        self.refuses(NoDealing(), lot_dealings, Parting.single(10), 3, balanced=True)
        self.refuses(TooMany("dealings", 512), lot_dealings, Parting.single(10), 3)

    def test_large_counts(self):
        for lots in range(1, 17):
            made = Parting.single(lots)
            for treatments in range(1, lots + 1):
                ways = 0
                sign = 1
                binomial = 1
                for left in range(treatments + 1):
                    ways += sign * binomial * (treatments - left) ** lots
                    sign, binomial = -sign, binomial * (treatments - left) // (left + 1)
                self.same(count_dealings(made, treatments), ways)
        self.same(count_dealings(Parting.single(16), 16), 20922789888000)
        self.same(count_dealings(Parting.single(16), 4, balanced=True), 63063000)
        self.same(count_dealings(Parting.single(16), 16, balanced=True), 20922789888000)
        self.same(count_dealings(Parting.single(16), 2, balanced=True), 12870)
        self.same(count_dealings(Parting.single(16), 3, balanced=True), 0)

    def test_designs_ascend(self):
        for made in (parting("abcab"), parting("abbca"), parting("abacbd")):
            found = lot_dealings(made, 2)
            self.assertEqual(found, sorted(found))

    def test_lists_are_new(self):
        lot_dealings(parting("ab"), 2).clear()
        self.same(lot_dealings(parting("ab"), 2), [(0, 1), (1, 0)])
