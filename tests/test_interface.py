"""[1] The interface: names, parameters, files; and the form of the files."""

import ast
import importlib
import inspect
import os
import unittest

HERE = os.path.dirname(os.path.abspath(__file__))
PACKAGE = os.path.join(os.path.dirname(HERE), "risingsays")

INTERFACE = {
    "errors": ("BadBook(place)", "BadSaying(place)", "BadTable(place)", "BadTerms(place)", "BadPaper(place)",
               "BadDeed(place)", "BadParameter(value)", "TooGreat(most)"),
    "sayings": ("unknowns(kinds, many)", "need_terms(field, kinds, many, terms)", "need_saying(field, kinds, saying)",
                "need_book(book)", "carried(field, kinds, places, terms)", "whole(field, kinds, many, terms)",
                "added(field, kinds, many, terms, others, factor)", "turned(field, kinds, saying, order)",
                "mirrored(field, kinds, saying)"),
    "numbers": ("number_of(field, above, below)", "need_number(field, value)", "plus(field, one, other)",
                "minus(field, one, other)", "times(field, one, other)", "over(field, one, other)"),
    "tables": ("need_table(book, many, table)", "worth(book, many, table, terms)", "first_broken(book, many, table)",
               "keeps(book, many, table)", "nought_table(book, many)", "table_sum(book, many, table, other, factor)",
               "table_part(book, many, table, places)"),
    "gaps": ("gaps_of(many, places)", "places_of(gaps)", "reaches(gaps, others)", "least_rows(rows)", "joined(rows)",
             "counted(rows, arity, many)"),
    "formulas": ("formula_of(rows, arity)", "value_at(formula, many)", "formula_plus(one, other)",
                 "formula_minus(one, other)", "equal_from(one, other)"),
    "bringing": ("brought(book, many, terms)", "overlaps(book)", "is_closed(book)"),
    "closing": ("closed_book(book)", "closed_hidden(book, hidden)", "closing_after(book, steps)"),
    "making": ("made_of(book, many, terms)", "is_made_of(book, many, terms, value)"),
    "papers": ("closed_paper(book)", "is_closed_paper(book, value)"),
    "free": ("lead_rows(book)", "free_at(book, many)", "free_formula(book)", "solved(book, many, numbers)",
             "basis(book, many)"),
    "following": ("holds_at(book, saying, many)", "holds_from(book, saying)", "breaking(book, saying, many)",
                  "is_breaking(book, saying, many, value)"),
    "showing": ("shown(book, saying, many, places)", "is_shown(book, saying, many, places, value)",
                "holding_paper(book, saying)", "is_holding_paper(book, saying, value)"),
    "hiding": ("seen_book(book, hidden)", "comes_from(book, hidden, many, table)",
               "is_come_from(book, hidden, many, table, value)", "seen_part(book, hidden, many, table)"),
    "pairing": ("follows_all(book, other, many)", "alike_at(book, other, many)", "alike_from(book, other)",
                "parting(book, other)", "is_parting(book, other, value)", "both(book, other)", "either(book, other)"),
    "going": ("going(book, more)", "endless(book)", "rest_of(book)", "going_back(book, more)",
              "going_both(book, ahead, behind)"),
    "further": ("stuck(book, many, table, more)", "gone_on(book, many, table, more)",
                "is_gone_on(book, many, table, more, value)"),
    "rules": ("rule_book(book, rules)", "by_rules(book, rules, many, table)"),
    "least": ("new_by_width(book)", "least_book(book)", "is_least(book)", "needless(book)", "without(book, lot)"),
    "orders": ("turned_all(field, kinds, saying)", "exchanged(book, many, table, order)", "is_nameless(book)",
               "any_order(book)", "naming(book)", "is_naming(book, value)"),
    "primes": ("at_prime(book, prime)", "is_bad_prime(book, prime)", "bad_primes(book, most)"),
    "sessions": ("begun(field, kinds)", "need_state(state)", "session_step(state, deed)",
                 "played(field, kinds, deeds)"),
}


def sources():
    for name in sorted(os.listdir(PACKAGE)):
        if name.endswith(".py"):
            with open(os.path.join(PACKAGE, name), encoding="utf-8") as file:
                yield name, file.read()


class Interface(unittest.TestCase):
    def test_each_name_stands_in_its_file_with_its_parameters(self):
        for file, calls in INTERFACE.items():
            module = importlib.import_module("risingsays." + file)
            for call in calls:
                name, rest = call[:-1].split("(")
                made = getattr(module, name)
                self.assertEqual(made.__module__, module.__name__, call)
                parameters = list(inspect.signature(made).parameters.values())
                self.assertEqual([one.name for one in parameters], rest.split(", "), call)
                for one in parameters:
                    self.assertEqual(one.kind, one.POSITIONAL_OR_KEYWORD, call)
                    self.assertIs(one.default, one.empty, call)


class Form(unittest.TestCase):
    def test_sizes_and_signs(self):
        for name, text in sources():
            lines = text.split("\n")
            self.assertLess(len(lines), 400, name)
            for line in lines:
                self.assertLessEqual(len(line), 120, name)
                self.assertTrue(all(" " <= sign <= "~" for sign in line), (name, line))
            for node in ast.walk(ast.parse(text)):
                if isinstance(node, ast.FunctionDef):
                    self.assertLessEqual(node.end_lineno - node.lineno + 1, 40, (name, node.name))

    def test_imports(self):
        for name, text in sources():
            for node in ast.walk(ast.parse(text)):
                self.assertNotIsInstance(node, ast.Import, name)
                if isinstance(node, ast.ImportFrom):
                    self.assertEqual(node.level, 0, name)
                    self.assertTrue(node.module in ("math", "itertools", "heapq")
                                    or node.module.startswith("risingsays."), (name, node.module))

    def test_nothing_else_is_in_the_folder(self):
        for name in os.listdir(PACKAGE):
            self.assertTrue(name.endswith(".py") or name == "__pycache__", name)


if __name__ == "__main__":
    unittest.main()
