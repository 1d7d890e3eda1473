"""The interface: each name is in its file, with its arguments as they stand."""

import importlib
import inspect
import unittest

FUNCTIONS = {
    "edges": ["edges_at(rule, day)", "greater(one, other)", "cell_at(rule, edges, time)"],
    "heaps": ["heap_of(runs)", "poured(one, other)", "can_be(thing)"],
    "widest": ["widest(heap)", "most_of(heap, k)", "least_of(heap, k)"],
    "ages": ["aged(roll, day)", "under(roll, rule)", "both(one, other)", "roll_of(rule, day, edges, readings)"],
    "measures": ["measure(word)"],
    "asks": ["pieces(roll, a, b)", "asked(word, rolls, a=None, b=None)"],
    "shown": ["shown(word, rolls, a, b, high)"],
    "sieves": ["is_name(thing)", "is_mark(thing)", "sieve(text)"],
    "houses": ["aged_book(book, day)", "book_under(book, rule)", "both_books(one, other)",
               "book_of(rule, day, edges, names, readings)", "told(book)", "size(book)"],
    "texts": ["show_number(number)", "show_fraction(one)", "show_pair(word, pair)", "show_rule(rule)",
              "show_book(book)", "read_number(text)", "read_rule(text)", "read_book(text)"],
}
ASKED = ["told(known, parts)", "chosen(known, parts, high)"]
CLASSES = {
    "rules": {"Rule(steps, gone=None)": ["steps()", "gone()", "room()"]},
    "rolls": {"Roll(rule, day)": ["put(time, value, many=1)", "rule()", "day()", "edges()", "young()", "heaps()"]},
    "measures": {"Measure()": [], "HowMany()": ASKED, "Total()": ASKED, "Least()": ASKED, "Greatest()": ASKED,
                 "Mean()": ASKED},
    "books": {"Book(rule, day)": ["enrol(name, marks=None)", "put(name, time, value, many=1)", "chosen(lets)",
                                  "of_name(word, name, a=None, b=None)", "of_all(word, lets, a=None, b=None)",
                                  "by_steps(word, lets, a, b, width)", "rule()", "day()", "edges()", "names()",
                                  "marks(name)", "roll(name)"]},
    "desk": {"Desk()": ["say(row)"]},
}


def written(name, thing):
    return name + str(inspect.signature(thing))


def of_file(stem, name):
    return getattr(importlib.import_module("thinbook." + stem), name)


class Interface(unittest.TestCase):
    def test_functions(self):
        for stem, rows in FUNCTIONS.items():
            for row in rows:
                name = row.split("(")[0]
                thing = of_file(stem, name)
                self.assertTrue(inspect.isfunction(thing), row)
                self.assertEqual(written(name, thing), row)

    def test_classes(self):
        for stem, classes in CLASSES.items():
            for row, methods in classes.items():
                name = row.split("(")[0]
                thing = of_file(stem, name)
                self.assertTrue(inspect.isclass(thing), row)
                self.assertEqual(written(name, thing), row)
                for method in methods:
                    plain = method.split("(")[0]
                    with_self = method.replace("()", "(self)") if "()" in method else method.replace("(", "(self, ")
                    self.assertEqual(written(plain, getattr(thing, plain)), with_self)

    def test_measures_stand_under_one_and_none_under_another(self):
        kinds = [of_file("measures", name) for name in ("HowMany", "Total", "Least", "Greatest", "Mean")]
        for one in kinds:
            self.assertTrue(issubclass(one, of_file("measures", "Measure")))
            self.assertEqual([other for other in kinds if issubclass(one, other)], [one])


if __name__ == "__main__":
    unittest.main()
