import unittest

from rowbreadth.words import is_name, number_in, words_of

HALF = 2 ** 63
KEPT = ("row def let put fold run till end at in of into where most here shift if rest least sum product both either odd"
        " chain capped").split()


class Words(unittest.TestCase):
    def test_an_empty_line(self):
        self.assertEqual(words_of(""), [])

    def test_blanks_alone(self):
        self.assertEqual(words_of(" "), [])
        self.assertEqual(words_of("      "), [])

    def test_one_word(self):
        for line in ("row", " row", "row ", "   row   "):
            self.assertEqual(words_of(line), ["row"])

    def test_several_blanks_between(self):
        self.assertEqual(words_of("row a 5"), ["row", "a", "5"])
        self.assertEqual(words_of("  row   a     -5 "), ["row", "a", "-5"])

    def test_brackets_with_blanks(self):
        self.assertEqual(words_of("let a ( + 1 ( - 2 3 ) )"),
                         ["let", "a", "(", "+", "1", "(", "-", "2", "3", ")", ")"])

    def test_brackets_without_blanks(self):
        self.assertEqual(words_of("let a(+ 1(- 2 3))"), ["let", "a", "(", "+", "1", "(", "-", "2", "3", ")", ")"])
        self.assertEqual(words_of("a(b)c"), ["a", "(", "b", ")", "c"])

    def test_brackets_alone(self):
        self.assertEqual(words_of("("), ["("])
        self.assertEqual(words_of(")"), [")"])
        self.assertEqual(words_of("(()))("), ["(", "(", ")", ")", ")", "("])
        self.assertEqual(words_of(" () ) "), ["(", ")", ")"])

    def test_no_other_sign_stands_apart(self):
        signs = [chr(code) for code in range(33, 127) if chr(code) not in "()%"]
        self.assertEqual(words_of("".join(signs)), ["".join(signs)])
        for sign in signs:
            with self.subTest(sign=sign):
                self.assertEqual(words_of(f"a{sign}b {sign} {sign}{sign}"), [f"a{sign}b", sign, sign * 2])

    def test_letters_stay_as_they_are(self):
        self.assertEqual(words_of("Row rOW -00 =+"), ["Row", "rOW", "-00", "=+"])

    def test_the_list_told_is_the_askers_own(self):
        first = words_of("a b")
        first.append("c")
        self.assertEqual(words_of("a b"), ["a", "b"])


class Names(unittest.TestCase):
    def test_names(self):
        for word in ("a", "z", "abc", "abcdefghijkl", "zzzzzzzzzzzz", "rows", "ro", "e", "hereat", "and"):
            with self.subTest(word=word):
                self.assertIs(is_name(word), True)

    def test_no_names(self):
        for word in ("", "abcdefghijklm", "A", "aB", "a1", "1", "a_b", "a-b", "(", ")", "=", "+", "-", "a.", "{", "`"):
            with self.subTest(word=word):
                self.assertIs(is_name(word), False)

    def test_kept_words(self):
        self.assertEqual(len(KEPT), 26)
        for word in KEPT:
            with self.subTest(word=word):
                self.assertIs(is_name(word), False)


class Numbers(unittest.TestCase):
    def test_numbers(self):
        for number in (0, 1, -1, 9, 10, -10, 400, 10 ** 18, HALF - 1, -HALF):
            self.assertEqual(number_in(str(number)), number)

    def test_no_numbers(self):
        for word in ("", "-", "-0", "00", "007", "-07", "+1", "--1", "1-", "1.0", "1e3", "0x1", "a", "1a", "1_0", "- 1"):
            with self.subTest(word=word):
                self.assertIsNone(number_in(word))

    def test_beyond_what_is_kept(self):
        for number in (HALF, -HALF - 1, HALF * 2, 10 ** 19, -(10 ** 19), 10 ** 300):
            self.assertIsNone(number_in(str(number)))

    def test_more_figures_than_python_reads(self):
        self.assertIsNone(number_in("9" * 5900))
        self.assertIsNone(number_in("-" + "9" * 5900))


if __name__ == "__main__":
    unittest.main()
