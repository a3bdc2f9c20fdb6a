"""The interface of the document: its names, with their arguments as they stand there."""

import importlib
import inspect
import unittest

INTERFACE = {
    "grammars": ["grammar_of(rules)", "names(grammar)", "rules_of(grammar, name)", "is_name(part)"],
    "trees": ["row_of(tree)", "tree_cost(grammar, tree)", "knots(tree)", "depth(tree)", "right_tree(grammar, name, tree)",
              "is_reading(grammar, row, tree)"],
    "spans": ["facts(grammar, row)", "cuts(grammar, row, number, begin, end, known)"],
    "readings": ["reading(grammar, row)", "right_paper(grammar, row, paper)", "paper_against(grammar, row)"],
    "groves": ["grove(grammar, row)", "ring(grammar, grove)", "grove_count(grammar, row)",
               "tree_numbered(grammar, row, number)"],
    "costs": ["least_reading(grammar, row)", "prices(grammar, row)", "right_prices(grammar, row, prices)"],
    "nexts": ["shortest_rows(grammar)", "next_words(grammar, row)", "way_on(grammar, row)"],
    "mends": ["fewest_mends(grammar, row)", "mended(steps)", "is_mend(row, steps)", "mend_paper(grammar, row)",
              "right_mend_paper(grammar, row, paper)"],
    "plainer": ["no_empty(grammar)", "no_single(grammar)", "twos(grammar)", "back_tree(backs, tree)"],
    "machines": ["lets(machine, row)", "is_walk(machine, row, walk)", "both_let(grammar, machine)",
                 "paper_none(grammar, machine)", "right_none(grammar, machine, paper)"],
    "counts": ["tree_count(grammar, name, length)", "rows_of_length(grammar, length)", "parting(one, other, most)"],
    "texts": ["shown_grammar(grammar)", "shown_tree(grammar, tree)", "read_grammar(text)", "read_tree(grammar, text)",
              "signs(text)", "text_grammar()"],
}


class Interface(unittest.TestCase):
    def test_functions(self):
        for part, told in INTERFACE.items():
            module = importlib.import_module("readgrove." + part)
            for row in told:
                name = row.partition("(")[0]
                with self.subTest(row):
                    self.assertEqual(name + str(inspect.signature(getattr(module, name))), row)

    def test_desk(self):
        desk = importlib.import_module("readgrove.desk").Desk
        self.assertEqual(str(inspect.signature(desk)), "()")
        self.assertEqual(str(inspect.signature(desk.told)), "(self, order)")


if __name__ == "__main__":
    unittest.main()
