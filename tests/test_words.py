import unittest

from rowbreadth.words import words_of


class Words(unittest.TestCase):
    def test_an_empty_line(self):
        self.assertEqual(words_of(""), [])

    def test_blanks_alone(self):
        self.assertEqual(words_of(" "), [])
        self.assertEqual(words_of("      "), [])

    def test_one_word(self):
        for line in ("row", " row", "row ", "   row   "):
            self.assertEqual(words_of(line), ["row"])

    def test_several_blanks_between(self):
        self.assertEqual(words_of("row a 5"), ["row", "a", "5"])
        self.assertEqual(words_of("  row   a     -5 "), ["row", "a", "-5"])

    def test_brackets_with_blanks(self):
        self.assertEqual(words_of("let a ( + 1 ( - 2 3 ) )"),
                         ["let", "a", "(", "+", "1", "(", "-", "2", "3", ")", ")"])

    def test_brackets_without_blanks(self):
        self.assertEqual(words_of("let a(+ 1(- 2 3))"), ["let", "a", "(", "+", "1", "(", "-", "2", "3", ")", ")"])
        self.assertEqual(words_of("a(b)c"), ["a", "(", "b", ")", "c"])

    def test_brackets_alone(self):
        self.assertEqual(words_of("("), ["("])
        self.assertEqual(words_of(")"), [")"])
        self.assertEqual(words_of("(()))("), ["(", "(", ")", ")", ")", "("])
        self.assertEqual(words_of(" () ) "), ["(", ")", ")"])

    def test_no_other_sign_stands_apart(self):
        signs = [chr(code) for code in range(33, 127) if chr(code) not in "()%"]
        self.assertEqual(words_of("".join(signs)), ["".join(signs)])
        for sign in signs:
            with self.subTest(sign=sign):
                self.assertEqual(words_of(f"a{sign}b {sign} {sign}{sign}"), [f"a{sign}b", sign, sign * 2])

    def test_letters_stay_as_they_are(self):
        self.assertEqual(words_of("Row rOW -00 =+"), ["Row", "rOW", "-00", "=+"])

    def test_the_list_told_is_the_askers_own(self):
        first = words_of("a b")
        first.append("c")
        self.assertEqual(words_of("a b"), ["a", "b"])


if __name__ == "__main__":
    unittest.main()
