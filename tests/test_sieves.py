"""Promise 35 and, of 32, names and marks: what they are, and the sieves that let lists of marks by."""

import itertools
import unittest

from thinbook.errors import NoMark
from thinbook.sieves import is_mark, is_name, sieve

LETTERS = "abcdefghijklmnopqrstuvwxyz"
NO_TEXTS = [None, True, False, 0, 1, -1, [], ["hot"], ("hot",), (), {}, {"hot": True}, b"hot", {"hot"}, object(), str]
# One sign that is no small letter, ahead of, within and behind letters.
NO_LETTERS = ["A", "Z", "1", "0", "-", "_", " ", "\n", "\t", ".", "`", "{", "\u00e9", "\u00df", "\u0430", "\uff41",
              "\0"]


def wrong_signs():
    return [word for sign in NO_LETTERS for word in (sign, sign + "a", "a" + sign, "a" + sign + "a")]


class NamesAndMarks(unittest.TestCase):
    def test_each_letter(self):
        for letter in LETTERS:
            self.assertIs(is_name(letter), True)
            self.assertIs(is_mark(letter), True)

    def test_as_long_as_can_be(self):
        for many in range(1, 20):
            word = (LETTERS + LETTERS)[many:2 * many]
            self.assertIs(is_name(word), many <= 12, word)
            self.assertIs(is_mark(word), many <= 8, word)
        self.assertIs(is_name("z" * 1000), False)
        self.assertIs(is_mark("z" * 1000), False)

    def test_the_text_without_signs(self):
        self.assertIs(is_name(""), False)
        self.assertIs(is_mark(""), False)

    def test_other_signs(self):
        for word in wrong_signs():
            with self.subTest(word=word):
                self.assertIs(is_name(word), False)
                self.assertIs(is_mark(word), False)

    def test_no_texts(self):
        for thing in NO_TEXTS:
            with self.subTest(thing=thing):
                self.assertIs(is_name(thing), False)
                self.assertIs(is_mark(thing), False)


class Sieves(unittest.TestCase):
    def check_lets(self, text, lists, lets):
        told = sieve(text)
        for marks, one in zip(lists, lets):
            with self.subTest(text=text, marks=marks):
                self.assertIs(told(marks), one)

    def test_no_words(self):
        self.check_lets("", [[], ["hot"], ["cold", "hot", "wet"]], [True, True, True])

    def test_marks(self):
        lists = [[], ["hot"], ["cold"], ["cold", "hot"], ["hot", "wet", "cold"], ["hott", "ho"]]
        self.check_lets("hot", lists, [False, True, False, True, True, False])
        self.check_lets("hot cold", lists, [False, False, False, True, True, False])
        self.check_lets("cold hot", lists, [False, False, False, True, True, False])

    def test_marks_behind_a_minus(self):
        lists = [[], ["hot"], ["cold"], ["cold", "hot"], ["hot", "wet", "cold"], ["hott", "ho"]]
        self.check_lets("-hot", lists, [True, False, True, False, False, True])
        self.check_lets("-hot -cold", lists, [True, False, False, False, False, True])
        self.check_lets("cold -hot", lists, [False, False, True, False, False, False])
        self.check_lets("-hot cold", lists, [False, False, True, False, False, False])

    def test_pieces_of_marks_are_other_marks(self):
        self.check_lets("hot", [["hot", "ot"], ["h", "hot", "t"], ["ot"]], [True, True, False])
        self.check_lets("-hot", [["ot"], ["h", "ho"], ["hot", "ot"]], [True, True, False])
        self.check_lets("a -ab", [["a"], ["a", "b"], ["a", "ab"]], [True, True, False])

    def test_a_mark_and_the_same_one_behind_a_minus(self):
        lists = [[], ["hot"], ["cold"], ["cold", "hot"]]
        self.check_lets("hot -hot", lists, [False] * 4)
        self.check_lets("-hot hot", lists, [False] * 4)
        self.check_lets("cold hot -hot", lists, [False] * 4)

    def test_a_word_twice(self):
        self.check_lets("hot hot", [["hot"], []], [True, False])
        self.check_lets("-hot -hot", [["hot"], []], [False, True])

    def test_the_longest_marks(self):
        lists = [["abcdefgh"], ["abcdefgh", "zzzzzzzz"], ["abcdefg"]]
        self.check_lets("abcdefgh -zzzzzzzz", lists, [True, False, False])

    def test_more_words_than_a_name_has_marks(self):
        words = list(LETTERS)
        self.check_lets(" ".join(words), [words, words[:-1], words[1:], []], [True, False, False, False])
        self.check_lets(" ".join("-" + word for word in words), [[], ["a"], ["z"], ["zz"]], [True, False, False, True])

    def test_all_small_sieves_by_the_document_s_words(self):
        marks = ["a", "b", "c"]
        lists = [list(some) for many in range(4) for some in itertools.permutations(marks, many)]
        words = marks + ["-" + mark for mark in marks]
        for many in range(4):
            for some in itertools.product(words, repeat=many):
                told = sieve(" ".join(some))
                for one in lists:
                    wanted = [word for word in some if word[0] != "-"]
                    barred = [word[1:] for word in some if word[0] == "-"]
                    self.assertIs(told(one), set(wanted) <= set(one) and not set(barred) & set(one), (some, one))

    def check_refused(self, thing):
        with self.subTest(thing=thing):
            with self.assertRaises(NoMark) as caught:
                sieve(thing)
            self.assertIs(type(caught.exception), NoMark)

    def test_blanks(self):
        for text in [" ", "  ", "hot ", " hot", "hot  cold", "hot   cold", " -hot", "-hot ", "hot cold ", "- hot",
                     "hot\tcold", "hot\ncold", "hot\n", "\n", "\nhot", "hot\u00a0cold", "\t"]:
            self.check_refused(text)

    def test_minus(self):
        for text in ["-", "--", "--hot", "---hot", "hot -", "- -", "hot-", "hot-cold", "-hot-", "-hot-cold",
                     "hot --cold", "hot - cold", "+hot", "\u2212hot", "-hot,-cold"]:
            self.check_refused(text)

    def test_what_is_no_mark(self):
        for word in ["abcdefghi", "Hot", "HOT", "hot1", "1", "h_t", "h\u00f6t", "hot,", "any*", "\u0430"]:
            for text in [word, "-" + word, "hot " + word, word + " hot", "hot -" + word, "-" + word + " hot"]:
                self.check_refused(text)

    def test_what_is_no_text(self):
        for thing in NO_TEXTS:
            self.check_refused(thing)

    def test_lists_handed_in_stay_as_they_are(self):
        told = sieve("hot -wet")
        for marks in ([], ["hot"], ["wet", "hot", "cold"], ["wet"]):
            handed = list(marks)
            told(handed)
            self.assertEqual(handed, marks)

    def test_what_is_changed_later_changes_nothing(self):
        told = sieve("hot -wet")
        marks = ["hot"]
        self.assertIs(told(marks), True)
        marks.append("wet")
        self.assertIs(told(marks), False)
        marks.clear()
        self.assertIs(told(["hot"]), True)

    def test_sieves_stay_apart(self):
        one, other, every = sieve("hot"), sieve("-hot"), sieve("")
        for again in range(2):
            self.assertEqual([told(["hot"]) for told in (one, other, every)], [True, False, True])
            self.assertEqual([told([]) for told in (one, other, every)], [False, True, True])


if __name__ == "__main__":
    unittest.main()
