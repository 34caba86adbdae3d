from itertools import product

from crossmeans import errors
from crossmeans.closure import closure
from crossmeans.errors import BadLine, CrossError, TooMany
from crossmeans.keep import Book
from crossmeans.meetings import first_break
from crossmeans.moebius import dimensions
from crossmeans.partings import parting_text
from crossmeans.ratios import ratio_text, read_ratio
from crossmeans.script import read_script, run_script, write_script
from crossmeans.tables import means
from tests.helpers import CrossTest, numbers

START = "names a b\nplot x 1 5\nplot x 2 1/2\nplot y 1 -4\n"
RIGHT = (
    "names a", "names a b c d e", "names abcdef a1b2c3", "plot x 1", "plot a b c d e 1/2", "plot 0 -7/3",
    "plot 01 1 0", "plot 000000 zzzzzz 12345678901234567890", "plot x -1234567890123456789", "put 0 1", "put 999999 0",
    "put 10 -1/9", "relabel 0 a x", "relabel 12 abcdef 123456", "drop 0", "drop 123456", "swap 0 0", "swap 10 9",
    "undo", "parting a", "means a", "meet a a", "meet a b", "join a b", "orthogonal a b", "break b a", "closure",
    "dimensions", "squares", "orders", "rows", "terms a", "terms a/b", "terms (((", "terms ~", "terms names",
    "terms " + "x" * 30, "parting names", "names undo", "names names plot")
WRONG = (
    " ", "  ", "x", "Names a", "names", "names a a", "names a b a", "names A", "names 1a", "names a b c d e f",
    "names a-b", "names abcdefg", "names a ", " names a", "names  a", "plot", "plot 1", "plot x", "plot a b c d e f 1",
    "plot X 1", "plot x 1/1", "plot x 2/4", "plot x 01", "plot x +1", "plot x -0", "plot x 1.5", "plot x 1/0",
    "plot x_ 1", "plot abcdefg 1", "plot x 123456789012345678901", "plot x 1/", "plot x 1 ", "plot  x 1", "plot -1 1",
    "put", "put 0", "put 0 1 2", "put 00 1", "put 01 1", "put -1 1", "put 1234567 1", "put a 1", "put 0 x", "put 0 1/1",
    "put +1 1", "put 1/2 1", "relabel 0 a", "relabel 0 a x y", "relabel 0 A x", "relabel 0 a X", "relabel 00 a x",
    "relabel 0 1 x", "relabel 0 a abcdefg", "drop", "drop 0 1", "drop 01", "drop -1", "swap 0", "swap 0 1 2",
    "swap 0 01",
    "undo 1", "undo ", "parting", "parting a b", "parting A", "parting 1", "means", "means a b", "meet a", "meet a b c",
    "meet a B", "join", "join a", "orthogonal a", "orthogonal a b c", "break a", "break a b c", "closure a",
    "dimensions 1", "squares a", "orders a", "rows 0", "terms", "terms a b", "terms  a", "terms " + "x" * 31, "add x 1",
    "rowsx", "row", "undo\\n", "plot x y", "names a,b")


class ReadTest(CrossTest):
    def test_right_lines(self):
        for line in RIGHT:
            self.same(read_script(line), [tuple(line.split(" "))])
        self.same(read_script("\n".join(RIGHT)), [tuple(line.split(" ")) for line in RIGHT])
        self.same(read_script(text="undo"), [("undo",)])

    def test_wrong_lines(self):
        for line in WRONG:
            self.refuses(BadLine(1), read_script, line)
            self.refuses(BadLine(1), run_script, line)
            self.refuses(BadLine(4), read_script, "undo\n\nrows\n" + line + "\nrows\n ")
            self.refuses(BadLine(4), run_script, "rows\n\nterms a\n" + line)

    def test_empty_lines(self):
        self.same(read_script(""), [])
        self.same(read_script("\n"), [])
        self.same(read_script("\n\nundo\n\n"), [("undo",)])
        self.same(read_script("undo\n"), [("undo",)])
        self.refuses(BadLine(3), read_script, "undo\n\n \nundo")
        self.same(run_script(""), [])
        self.same(run_script("\n\n"), [])

    def test_counts_of_lines(self):
        self.same(read_script("\n".join(["undo"] * 80)), [("undo",)] * 80)
        self.same(read_script("\n" * 79), [])
        self.same(run_script("\n".join(["terms a"] * 80)), ["a"] * 80)
        for text in ("\n".join(["undo"] * 81), "\n" * 80, "undo\n" * 80, "x\n" * 80, " \n" * 200, "\n" * 2000):
            self.refuses(TooMany("lines", 80), read_script, text)
            self.refuses(TooMany("lines", 80), run_script, text)
        self.refuses(BadLine(80), read_script, "\n" * 79 + " ")

    def test_each_short_word(self):
        for signs in product("a1/- ", repeat=3):
            word = "".join(signs)
            parts = word.split(" ")
            right = " " not in word and word[0] == "a" and all(sign in "a1" for sign in word)
            right = right or (len(parts) == 2 and all(part and part[0] == "a" and part not in ("a/", "a-")
                                                      for part in parts) and parts[0] != parts[1])
            if right:
                self.same(read_script("names " + word), [("names", *parts)])
            else:
                self.refuses(BadLine(1), read_script, "names " + word)

    def test_write_script(self):
        for text in (RIGHT[0], "\n".join(RIGHT), START[:-1]):
            self.same(write_script(read_script(text)), text)
        self.same(write_script(deeds=[("undo",), ("put", "0", "1/2")]), "undo\nput 0 1/2")
        self.same(write_script([]), "")
        self.same(write_script(()), "")
        self.same(write_script([["drop", "0"]]), "drop 0")
        self.same(write_script(read_script("\n\nundo\n\nrows\n")), "undo\nrows")
        self.same(read_script(write_script([("undo",)] * 80)), [("undo",)] * 80)

    def test_nothing_is_shared(self):
        read_script("undo").clear()
        self.same(read_script("undo"), [("undo",)])
        deeds = [("undo",)]
        write_script(deeds)
        self.same(deeds, [("undo",)])
        run_script("terms a").clear()
        self.same(run_script("terms a"), ["a"])


def slow_run(text):
    """The lines of a script, by a Book and the functions that the document names."""
    names, book, lines = None, None, []
    for deed, *words in (line.split(" ") for line in text.split("\n") if line):
        if deed == "names":
            names, book = words, None
            continue
        try:
            if deed == "plot":
                row = (words[:-1], read_ratio(words[-1]))
                if names is None:
                    raise errors.BadShape()
                if book is None:
                    book = Book(names, [row])
                else:
                    book.add_plot(*row)
                continue
            if book is None:
                raise errors.NoPlots()
            line = slow_deed(book, deed, words)
        except CrossError as error:
            line = "refused " + type(error).__name__
        if line is not None:
            lines.append(line)
    return lines


def slow_deed(book, deed, words):
    if deed in ("put", "relabel", "drop", "swap", "undo"):
        plots = 2 if deed == "swap" else 0 if deed == "undo" else 1
        rest = [read_ratio(words[1])] if deed == "put" else words[plots:]
        getattr(book, deed)(*map(int, words[:plots]), *rest)
        return None
    own = [book.parting(name) for name in words]
    every = [book.parting(name) for name in book.names]
    if deed in ("parting", "meet", "join"):
        return parting_text(own[0] & own[-1] if deed == "meet" else own[0] | own[-1])
    if deed == "means":
        return " ".join(map(ratio_text, means(own[0], book.table())))
    if deed in ("orthogonal", "break"):
        row = first_break(*own)
        texts = ("yes", "no") if deed == "orthogonal" else ("none", " ".join(map(str, row or ())))
        return texts[row is not None]
    if deed in ("closure", "dimensions"):
        members = closure(every, bottom=True)
        return " / ".join(map(parting_text, members)) if deed == "closure" else " ".join(map(str, dimensions(members)))
    if deed == "squares":
        return " ".join(map(ratio_text, book.squares()))
    if deed == "orders":
        paper = book.unlike_orders()
        parts = paper and [" ".join(map(str, paper[0])), " ".join(map(str, paper[1])),
                           " ".join(map(ratio_text, paper[2])), str(paper[3])]
        return " / ".join(parts) if paper else "none"
    return " / ".join(" ".join([*labels, ratio_text(number)]) for labels, number in book.rows_now())


class RunTest(CrossTest):
    def test_example(self):
        self.same(run_script("names a b\nplot x 1 5\nplot y 1 1/2\northogonal a b\nput 2 7\nparting a\nterms a/b"),
                  ["yes", "refused BadPlot", "0|1", "a + a.b"])

    def test_each_question(self):
        for deed, line in (
                ("parting a", "0 1|2"), ("parting b", "0 2|1"), ("meet a b", "0|1|2"), ("join a b", "0 1 2"),
                ("meet a a", "0 1|2"), ("means a", "11/4 11/4 -4"), ("means b", "1/2 1/2 1/2"),
                ("orthogonal a b", "no"), ("orthogonal b b", "yes"), ("break a b", "0 0 0 1 2 2 3"), ("break b a", "0 0 0 1 2 2 3"),
                ("break a a", "none"), ("closure", "0 1 2 / 0 1|2 / 0 2|1 / 0|1|2"), ("dimensions", "1 1 1 0"),
                ("squares", "refused NotOrthogonal"), ("orders", "0 1 2 / 0 2 1 / 1 0 0 / 1"),
                ("rows", "x 1 5 / x 2 1/2 / y 1 -4"), ("terms a*b", "a + b + a.b"), ("terms a*", "refused BadFormula"),
                ("terms a*a", "refused RepeatedName"), ("terms a*b*c*d*e", "refused TooMany"),
                ("parting c", "refused UnknownName"), ("means c", "refused UnknownName"),
                ("meet a c", "refused UnknownName"), ("join c a", "refused UnknownName"),
                ("orthogonal c d", "refused UnknownName"), ("break a c", "refused UnknownName")):
            self.same(run_script(START + deed), [line])
            self.same(run_script(text=START + deed + "\n" + deed), [line, line])

    def test_orthogonal_plots(self):
        start = START + "plot y 2 3\n"
        self.same(run_script(start + "squares\norders\ndimensions\nclosure\nbreak a b"), [
            "81/16 169/16 25/16 529/16", "none", "1 1 1 1", "0 1 2 3 / 0 1|2 3 / 0 2|1 3 / 0|1|2|3", "none"])

    def test_edits_return_no_line(self):
        self.same(run_script(START + "put 0 7\nrelabel 1 b 1\nswap 0 2\ndrop 1\nplot z z 0\nundo\nundo\nrows"),
                  ["y 1 -4 / x 1 1/2 / x 1 7"])

    def test_refused_edits_change_nothing(self):
        for deed, name in (("put 3 1", "BadPlot"), ("put 999999 1", "BadPlot"), ("relabel 3 a x", "BadPlot"),
                           ("relabel 3 c x", "BadPlot"), ("relabel 0 c x", "UnknownName"), ("drop 3", "BadPlot"),
                           ("swap 0 3", "BadPlot"), ("swap 3 0", "BadPlot"), ("plot x 1", "BadShape"),
                           ("plot x 1 2 3", "BadShape"), ("undo\nundo\nundo", "NothingToUndo")):
            lines = run_script(START + deed + "\nrows")
            if name == "NothingToUndo":
                # The first plot makes the Book, so it cannot be undone.
                self.same(lines, ["refused NothingToUndo", "x 1 5"])
            else:
                self.same(lines, ["refused " + name, "x 1 5 / x 2 1/2 / y 1 -4"])

    def test_labels_stay_texts(self):
        self.same(run_script("names a\nplot 01 1\nplot 1 2\nplot 01 3\nparting a\nrelabel 1 a 01\nparting a\nrows"),
                  ["0 2|1", "0 1 2", "01 1 / 01 2 / 01 3"])

    def test_ahead_of_the_names(self):
        deeds = [line for line in RIGHT if not line.startswith(("names", "plot", "terms"))]
        for deed in deeds:
            self.same(run_script(deed), ["refused NoPlots"])
            self.same(run_script("names a\n" + deed), ["refused NoPlots"])
            self.same(run_script(START + "names a b\n" + deed), ["refused NoPlots"])
        for line in ("plot x 1", "plot a b c d e 1"):
            self.same(run_script(line), ["refused BadShape"])
        self.same(run_script("terms a/b"), ["a + a.b"])
        self.same(run_script("terms a/"), ["refused BadFormula"])
        self.same(run_script("plot x 1\nnames a\nplot x 1\nrows"), ["refused BadShape", "x 1"])

    def test_the_first_plot(self):
        self.same(run_script("names a b\nplot x 1\nundo\nplot x y 1\nundo\nrows"),
                  ["refused BadShape", "refused NoPlots", "refused NothingToUndo", "x y 1"])
        self.same(run_script("names a\nplot x 1\nplot y 2\nundo\nundo\nrows"), ["refused NothingToUndo", "x 1"])
        self.same(run_script("names a\nplot x 1\ndrop 0\nplot y 2\ndrop 0\ndrop 0\nrows"),
                  ["refused NoPlots", "refused NoPlots", "y 2"])

    def test_names_again(self):
        self.same(run_script(START + "names a b\nrows\nplot p q 1\nundo\nrows"),
                  ["refused NoPlots", "refused NothingToUndo", "p q 1"])
        self.same(run_script(START + "names c\nplot p 1\nparting a\nparting c"), ["refused UnknownName", "0"])

    def test_sixteen_plots(self):
        rows = "\n".join(f"plot l{plot} {plot}" for plot in range(17))
        self.same(run_script("names a\n" + rows + "\nparting a\norders"),
                  ["refused TooMany", "|".join(str(plot) for plot in range(16)), "refused TooMany"])

    def test_large_closures(self):
        names = "names p q r s\n"
        labels = list(zip("aabcdefghi", "abccdefghi", "abcdeefghi", "abcdefgghi"))
        rows = "".join(f"plot {' '.join(row)} 1\n" for row in labels)
        self.same(run_script(names + rows + "closure\ndimensions\nsquares"), ["refused TooMany"] * 3)
        # Without the last plot the single plots are still no member of the others' joins, so 17 members stay.
        self.same(run_script(names + rows + "drop 9\nclosure\ndimensions"), ["refused TooMany"] * 2)
        three = "names p q r\n" + "".join(f"plot {' '.join(row[:3])} 1\n" for row in labels)
        [texts, sizes] = run_script(three + "closure\ndimensions")
        self.same((texts.count("/"), sizes.count(" ")), (8, 8))

    def test_a_bad_line_is_found_first(self):
        self.refuses(BadLine(5), run_script, START + "put 9 9 9")
        self.refuses(BadLine(2), run_script, "undo\nundo \nundo")

    def test_mixed_scripts(self):
        kinds = ("plot {0} {1} {2}", "plot {0} {2}", "put {3} {2}", "relabel {3} a {0}", "relabel {3} c {1}",
                 "drop {3}", "swap {3} {4}", "undo", "parting a", "means b", "meet a b", "join a b", "orthogonal b a",
                 "break a b", "closure", "dimensions", "squares", "orders", "rows", "parting c", "plot {0} {1} -1/3",
                 "plot {1} {0} 2", "undo", "plot {0} {0} 1")
        told = set()
        for seed in range(60):
            chosen = numbers(seed, 50, 0, len(kinds) - 1)
            places = numbers(seed + 500, 150, 0, 4)
            lines = ["names a b"] if seed % 5 else []
            for at, kind in enumerate(chosen):
                first, second, third = places[3 * at:3 * at + 3]
                lines.append(kinds[kind].format("xyzxy"[first], "12112"[second], f"{third - 2}", first, third))
            text = "\n".join(lines + ["names c"] * (seed % 7 == 0) + ["rows"])
            expected = slow_run(text)
            self.same(run_script(text), expected)
            told |= {line for line in expected if line.startswith("refused")}
        self.assertEqual(told, {"refused " + name for name in (
            "NoPlots", "BadShape", "BadPlot", "UnknownName", "NothingToUndo", "NotOrthogonal")})
