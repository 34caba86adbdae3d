from crossmeans import errors
from tests.helpers import CrossTest

INPUT = {
    "NoPlots": (), "UnlikePlots": ("left_plots", "right_plots"), "BadLabel": ("at",), "BadPlot": ("plot",),
    "BadLots": ("at",), "BadNumber": ("at",), "BadIndex": ("at",), "BadText": ("text",), "BadOrder": (),
    "BadPaper": (), "BadShape": (), "RepeatedMember": ("at",), "ZeroDivisor": (), "ZeroTable": (),
    "BadName": ("name",), "RepeatedName": ("name",), "UnknownName": ("name",), "BadTerm": (),
    "BadFormula": ("at",), "BadTree": (), "BadSizes": ("at",), "BadArrangement": ("at",),
    "BadPrime": ("number",), "BadWord": ("at",), "BadWish": (), "BadWeight": ("at",), "BadLine": ("line",),
}
LIMIT = {"TooMany": ("what", "limit")}
ANSWER = {
    "NotOrthogonal": ("first", "second"), "NoDealing": (), "NoDesign": (), "NoMend": (),
    "NotEstimable": ("paper",), "NotPlaced": ("at",), "NothingToUndo": (),
}
FAMILIES = ((errors.InputError, INPUT), (errors.LimitError, LIMIT), (errors.AnswerError, ANSWER))


class ErrorTest(CrossTest):
    def test_base_classes(self):
        self.assertEqual(errors.CrossError.__bases__, (ValueError,))
        for base in (errors.InputError, errors.LimitError, errors.AnswerError):
            self.assertEqual(base.__bases__, (errors.CrossError,))

    def test_each_class_stands_directly_under_its_base(self):
        for base, family in FAMILIES:
            for name in family:
                self.assertEqual(getattr(errors, name).__bases__, (base,), name)

    def test_there_are_no_other_classes(self):
        told = {name for _, family in FAMILIES for name in family}
        told |= {"CrossError", "InputError", "LimitError", "AnswerError"}
        self.assertEqual({name for name in vars(errors) if not name.startswith("_")}, told)

    def test_attributes_by_place_and_by_keyword_are_the_very_values(self):
        for _, family in FAMILIES:
            for name, attributes in family.items():
                values = [[name, at] for at in range(len(attributes))]
                by_place = getattr(errors, name)(*values)
                by_keyword = getattr(errors, name)(**dict(zip(attributes, values)))
                for made in (by_place, by_keyword):
                    self.assertEqual(set(vars(made)), set(attributes), name)
                    for attribute, value in zip(attributes, values):
                        self.assertIs(getattr(made, attribute), value)

    def test_a_passed_list_shows_later_changes(self):
        value = [1]
        error = errors.BadPlot(value)
        value.append(2)
        self.assertEqual(error.plot, [1, 2])

    def test_each_is_caught_by_its_bases(self):
        for base, family in FAMILIES:
            for name, attributes in family.items():
                for caught in (base, errors.CrossError, ValueError):
                    with self.assertRaises(caught):
                        raise getattr(errors, name)(*attributes)
