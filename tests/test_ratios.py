from fractions import Fraction

from crossmeans.errors import BadNumber, BadText, ZeroDivisor
from crossmeans.ratios import (as_ratio, compare, minus, negated, over, plus, ratio, ratio_text, read_ratio, times,
                               total)
from tests.helpers import BIG, NO_NUMBER, CrossTest, pair_of

SOME = (0, 1, -1, 7, -12, BIG, -BIG, (0, 5), (0, -3), (1, 2), (-1, 2), (1, -2), (-1, -2), (6, -4), (10, 5), (BIG, 6),
        (12, BIG), (-BIG, -BIG), (7, 10 ** 39))


def value_of(number):
    return Fraction(*number) if isinstance(number, tuple) else Fraction(number)


class RatioTest(CrossTest):
    def test_examples(self):
        self.same(plus((1, 2), (2, -4)), (0, 1))
        self.same(ratio_text((6, -4)), "-3/2")

    def test_ratio(self):
        self.same(ratio(6, -4), (-3, 2))
        self.same(ratio(-6, -4), (3, 2))
        self.same(ratio(0, -4), (0, 1))
        self.same(ratio(5), (5, 1))
        self.same(ratio(num=-8, den=4), (-2, 1))
        self.same(ratio(BIG * 6, BIG * -4), (-3, 2))
        self.refuses(ZeroDivisor(), ratio, 1, 0)
        self.refuses(ZeroDivisor(), ratio, 0, den=0)

    def test_as_ratio(self):
        for number in SOME:
            self.same(as_ratio(number), pair_of(value_of(number)))
        self.same(as_ratio((2, -4), at=9), (-1, 2))

    def test_as_ratio_with_other_values(self):
        for value in NO_NUMBER:
            self.refuses(BadNumber(0), as_ratio, value)
            self.refuses(BadNumber(5), as_ratio, value, 5)
            self.refuses(BadNumber(-BIG), as_ratio, number=value, at=-BIG)

    def test_arithmetic(self):
        for left in SOME:
            a = value_of(left)
            self.same(negated(left), pair_of(-a))
            for right in SOME:
                b = value_of(right)
                self.same(plus(left, right), pair_of(a + b))
                self.same(minus(left, right), pair_of(a - b))
                self.same(times(left, right), pair_of(a * b))
                self.same(compare(left, right), (a > b) - (a < b))
                if b:
                    self.same(over(left, right), pair_of(a / b))
                else:
                    self.refuses(ZeroDivisor(), over, left, right)

    def test_keywords(self):
        for call, result in ((plus, (5, 1)), (minus, (-1, 1)), (times, (6, 1)), (over, (2, 3)), (compare, -1)):
            self.same(call(right=3, left=2), result)
        self.same(negated(number=2), (-2, 1))

    def test_wrong_numbers_in_order(self):
        for value in NO_NUMBER:
            for call in (plus, minus, times, over, compare):
                self.refuses(BadNumber(0), call, value, 1)
                self.refuses(BadNumber(0), call, value, value)
                self.refuses(BadNumber(1), call, 1, value)
            self.refuses(BadNumber(0), over, value, 0)
            self.refuses(BadNumber(0), negated, value)
            self.refuses(BadNumber(0), ratio_text, value)

    def test_total(self):
        self.same(total([]), (0, 1))
        self.same(total(()), (0, 1))
        self.same(total([(1, 2), (1, -3), 4]), (25, 6))
        self.same(total((1, 2)), (3, 1))
        self.same(total(numbers=[(1, 2)] * 100), (50, 1))
        self.same(total(SOME), pair_of(sum(value_of(number) for number in SOME)))
        for value in NO_NUMBER:
            self.refuses(BadNumber(0), total, [value])
            self.refuses(BadNumber(2), total, [1, (1, 2), value, value])

    def test_arguments_stay(self):
        numbers = [(2, 4), 1]
        total(numbers)
        self.same(numbers, [(2, 4), 1])


class TextTest(CrossTest):
    def test_written_form(self):
        for number, text in ((0, "0"), ((0, -7), "0"), (-5, "-5"), ((5, 1), "5"), ((1, -2), "-1/2"), ((4, 6), "2/3"),
                             ((-BIG, 10), f"-{BIG}/10")):
            self.same(ratio_text(number), text)
        self.same(ratio_text(number=3), "3")

    def test_each_reads_as_it_is_written(self):
        for number in SOME:
            self.same(read_ratio(ratio_text(number)), as_ratio(number))
        self.same(read_ratio(text="-3/2"), (-3, 2))

    def test_texts_that_are_no_written_form(self):
        for text in ("", " ", "-", "/", "-/", "1/", "/2", "-/2", "2/4", "+1", "-0", "3/1", "01", "-01", "00", "0/1",
                     "0/5", "1/0", "0/0", "1/-2", "-1/-2", "1/+2", "--1", "1-", " 1", "1 ", "1 /2", "1/ 2", "1/02",
                     "01/2", "1/2/3", "1//2", "1.0", "1e3", "1_0", "1,0", "a", "1a", "0x1", "1\n", "\n1", "1/2\n",
                     "1\n/2", "-1/1", "10/5", "(1, 2)", "None", "True"):
            self.refuses(BadText(text), read_ratio, text)

    def test_four_hundred_signs(self):
        for text in ("1" * 400, "-" + "1" * 399, "1/" + "3" * 398, "-1/" + "3" * 397):
            self.same(ratio_text(read_ratio(text)), text)
        for text in ("1" * 401, "-" + "1" * 400, "1/" + "3" * 399, "-1/" + "3" * 398, "1" * 2000, "0" * 2000):
            self.refuses(BadText(text), read_ratio, text)

    def test_all_short_texts(self):
        right = {ratio_text((num, den)): (num, den) for num in range(-99, 1000) for den in range(1, 100)}
        texts = [""]
        for _ in range(4):
            texts = [text + sign for text in texts for sign in "0124-/"]
            for text in texts:
                if text in right or (text.isdigit() and text[0] != "0") or (text[0] == "-" and text[1:].isdigit()
                                                                          and text[1] != "0"):
                    self.same(ratio_text(read_ratio(text)), text)
                else:
                    self.refuses(BadText(text), read_ratio, text)
