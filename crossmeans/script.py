"""Scripts: texts whose lines are deeds that edit a Book and ask it."""

from crossmeans.checks import NAME_SIGNS, check_most, is_decimal, is_factor_name
from crossmeans.closure import closure
from crossmeans.errors import BadLine, BadShape, BadText, CrossError, NoPlots
from crossmeans.formread import read_formula, write_terms
from crossmeans.keep import Book, partings_of
from crossmeans.meetings import are_orthogonal, first_break
from crossmeans.moebius import dimensions
from crossmeans.partings import parting_text
from crossmeans.ratios import ratio_text, read_ratio
from crossmeans.tables import means

_MOST_LINES = 80
_MOST_NUMBER_SIGNS = 20
_MOST_SHORT_SIGNS = 6
_MOST_FORMULA_SIGNS = 30


def _is_name(word):
    return is_factor_name(word)


def _is_label(word):
    return 1 <= len(word) <= _MOST_SHORT_SIGNS and all([sign in NAME_SIGNS for sign in word])


def _is_number(word):
    if len(word) > _MOST_NUMBER_SIGNS:
        return False
    try:
        read_ratio(word)
    except BadText:
        return False
    return True


def _is_plot(word):
    return is_decimal(word) and len(word) <= _MOST_SHORT_SIGNS and (word == "0" or word[0] != "0")


def _is_formula(word):
    return 1 <= len(word) <= _MOST_FORMULA_SIGNS


_TESTS = {"N": _is_name, "L": _is_label, "NUMBER": _is_number, "PLOT": _is_plot, "FORMULA": _is_formula}
# What stands behind the word of each deed, but for `names` and `plot`, which take more or fewer words.
_FORMS = {
    "put": ("PLOT", "NUMBER"), "relabel": ("PLOT", "N", "L"), "drop": ("PLOT",), "swap": ("PLOT", "PLOT"), "undo": (),
    "parting": ("N",), "means": ("N",), "meet": ("N", "N"), "join": ("N", "N"), "orthogonal": ("N", "N"),
    "break": ("N", "N"), "closure": (), "dimensions": (), "squares": (), "orders": (), "rows": (),
    "terms": ("FORMULA",)}


def read_script(text):
    """The deeds of the text, each a tuple of the words of its line."""
    lines = text.split("\n")
    check_most(len(lines), "lines", _MOST_LINES)
    deeds = []
    for number, line in enumerate(lines, 1):
        if line != "":
            words = line.split(" ")
            if not _is_deed(words):
                raise BadLine(number)
            deeds.append(tuple(words))
    return deeds


def _is_deed(words):
    """True if the words have the form of a deed."""
    deed, *rest = words
    kinds = _form_of(deed, len(rest))
    if kinds is None or len(kinds) != len(rest):
        return False
    if deed == "names" and len(set(rest)) != len(rest):
        return False
    return all([_is_word(kind, word) for kind, word in zip(kinds, rest)])


def _form_of(deed, count):
    """The kinds of the words behind the deed, of which so many are told; None if there is no such deed."""
    if deed == "names" and 1 <= count <= Book.MOST_NAMES:
        return ("N",) * count
    if deed == "plot" and 1 <= count - 1 <= Book.MOST_NAMES:
        return ("L",) * (count - 1) + ("NUMBER",)
    return _FORMS.get(deed)


def _is_word(kind, word):
    test = _TESTS[kind]
    return test(word)


def write_script(deeds):
    """The text of the deeds."""
    return "\n".join([" ".join(deed) for deed in deeds])


class Run:
    """What the deeds of a script have made so far: the names, and a Book from the first plot on."""

    def __init__(self):
        self.names = ()
        self.book = None


def run_script(text):
    """The lines that the deeds of the text return."""
    deeds = read_script(text)
    run = Run()
    lines = []
    for deed in deeds:
        lines.extend(_lines_of(run, deed))
    return lines


def _lines_of(run, deed):
    """The lines that a deed returns, at most one."""
    try:
        line = _done(run, deed)
    except CrossError as error:
        return ["refused " + error.class_name()]
    return [] if line is None else [line]


def _done(run, deed):
    """Do the deed; what it answers, or None if it is an edit."""
    deed_name, *words = deed
    if deed_name == "names":
        run.names = tuple(words)
        run.book = None
        return None
    if deed_name == "plot":
        _plot(run, words)
        return None
    if deed_name == "terms":
        return write_terms(read_formula(words[0]))
    if run.book is None:
        raise NoPlots()
    action = _ACTIONS[deed_name]
    return action(run.book, words)


def _plot(run, words):
    """Add a plot to the Book; the first plot makes it."""
    *labels, number = words
    if run.book is not None:
        run.book.add_plot(labels, read_ratio(number))
    elif len(labels) != len(run.names):
        # Ahead of `names` there is no Book that could refuse the labels.
        raise BadShape()
    else:
        run.book = Book(run.names, [(labels, read_ratio(number))])


def _put(book, words):
    book.put(int(words[0]), read_ratio(words[1]))


def _relabel(book, words):
    plot, name, label = words
    book.relabel(int(plot), name, label)


def _drop(book, words):
    book.drop(int(words[0]))


def _swap(book, words):
    book.swap(int(words[0]), int(words[1]))


def _undo(book, _):
    book.undo()


def _ask_parting(book, words):
    return parting_text(book.parting(words[0]))


def _ask_means(book, words):
    return _numbers_text(means(book.parting(words[0]), book.table()).cells)


def _ask_meet(book, words):
    first, second = _two_partings(book, words)
    return parting_text(first & second)


def _ask_join(book, words):
    first, second = _two_partings(book, words)
    return parting_text(first | second)


def _ask_orthogonal(book, words):
    first, second = _two_partings(book, words)
    return "yes" if are_orthogonal(first, second) else "no"


def _ask_break(book, words):
    first, second = _two_partings(book, words)
    row = first_break(first, second)
    return "none" if row is None else _wholes_text(row)


def _two_partings(book, words):
    return [book.parting(name) for name in words]


def _ask_closure(book, _):
    return _parts_text([parting_text(member) for member in _whole_closure(book)])


def _ask_dimensions(book, _):
    return _wholes_text(dimensions(_whole_closure(book)))


def _whole_closure(book):
    """The closure of the partings of all names, with both trivial partings added."""
    return closure(partings_of(book), bottom=True)


def _ask_squares(book, _):
    return _numbers_text(book.squares())


def _ask_orders(book, _):
    paper = book.unlike_orders()
    if paper is None:
        return "none"
    order_one, order_two, cells, at = paper
    return _parts_text([_wholes_text(order_one), _wholes_text(order_two), _numbers_text(cells), str(at)])


def _ask_rows(book, _):
    return _parts_text([" ".join([*labels, ratio_text(number)]) for labels, number in book])


def _wholes_text(numbers):
    return " ".join([str(number) for number in numbers])


def _numbers_text(numbers):
    return " ".join([ratio_text(number) for number in numbers])


def _parts_text(texts):
    return " / ".join(texts)


_ACTIONS = {
    "put": _put, "relabel": _relabel, "drop": _drop, "swap": _swap, "undo": _undo, "parting": _ask_parting,
    "means": _ask_means, "meet": _ask_meet, "join": _ask_join, "orthogonal": _ask_orthogonal, "break": _ask_break,
    "closure": _ask_closure, "dimensions": _ask_dimensions, "squares": _ask_squares, "orders": _ask_orders,
    "rows": _ask_rows}
