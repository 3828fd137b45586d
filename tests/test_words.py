"""Point 7: NAMEs, NUMBERs and PATHs."""

import unittest

from samepaper.words import is_name, is_path, number_of

NO_NAMES = """add sub mul div rest less same pick copy at size put many make keep num row record function end let set
give if else while and or not call new""".split()


class NamesTest(unittest.TestCase):
    def test_names(self):
        for text in ["a", "z", "ab", "abcdefgh", "zzzzzzzz", "of", "n", "r", "ad", "adds", "number", "rows", "ifs",
                     "need", "tick", "go", "fork", "true"]:
            self.assertIs(is_name(text), True, text)

    def test_none(self):
        for text in ["", "abcdefghi", "A", "aB", "a1", "1", "0", "-", "a_b", "a-b", "a b", " a", "a ", "a.b", ".a", "a.",
                     "~", "a\n", "\n", "{", "`", "Num"]:
            self.assertIs(is_name(text), False, text)

    def test_each_kept_word(self):
        for text in NO_NAMES:
            self.assertIs(is_name(text), False, text)
            self.assertIs(is_path(text), False, text)
            self.assertIs(is_path("a." + text), False, text)


class PathsTest(unittest.TestCase):
    def test_paths(self):
        for text in ["a", "a.b", "a.b.c", "a.a.a", "abcdefgh.abcdefgh.abcdefgh"]:
            self.assertIs(is_path(text), True, text)

    def test_none(self):
        for text in ["", ".", "..", "a.b.c.d", ".a", "a.", "a..b", "a.b.", ".a.b", "a.b.c.", "a. b", "a .b", "a.B", "a.1",
                     "a.abcdefghi", "abcdefghi.a", "a.num", "if.a", "a,b", "5"]:
            self.assertIs(is_path(text), False, text)


class NumbersTest(unittest.TestCase):
    def test_numbers(self):
        for number in (-32768, -32767, -10000, -100, -10, -1, 0, 1, 9, 10, 100, 32766, 32767):
            told = number_of(str(number))
            self.assertEqual(told, number)
            self.assertIs(type(told), int)

    def test_none(self):
        for text in ["", "-", "+", "-0", "+0", "+1", "00", "01", "-01", "-00", "007", "32768", "-32769", "65536", "99999",
                     "100000", "1" * 5000, "-" + "9" * 5000, "--1", "1-", " 1", "1 ", "- 1", "1.0", "1_0", "0x1", "a", "1a",
                     "1\n"]:
            self.assertIsNone(number_of(text), text)


if __name__ == "__main__":
    unittest.main()
