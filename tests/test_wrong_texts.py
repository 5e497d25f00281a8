"""Points [3] and [6]: the texts that are of no program, and at which sign they are wrong."""

import random
import unittest

from forkspan.errors import InvalidText
from forkspan.programtext import read_program
from tests.drawn import Draw, drawn_programs
from tests.marked import Marked
from tests.samples import KEYWORDS
from tests.test_programtext import TEXTS


class Wrong(unittest.TestCase):
    def assert_wrong(self, text, at):
        with self.assertRaises(InvalidText, msg=text) as caught:
            read_program(text)
        self.assertEqual((caught.exception.text, caught.exception.at), (text, at), text)

    def assert_all_wrong(self, pairs):
        for text, at in pairs:
            self.assert_wrong(text, at)


class Signs(Wrong):
    def test_texts_that_end_too_early(self):
        for text in (
            "a", "a+", "a=", "a*=", "a m", "a ma", "a mi", "a max", "a max=", "a ", "a=$", "a=(", "a=(1", "a=(1+",
            "a=(1+b", "a=1+", "a=1 ", "a=1 m", "a=1 max", "a=1 max ", "a=1;", "i", "if", "if ", "if a", "if a{",
            "if a{}", "if a{}{", "if a{b=1;", "f", "fork", "fork{", "fork{}{", "fork{a=1", "each", "each ", "each i",
            "each i<", "each i<1", "each i<1{", "fold", "fold ", "fold a", "fold a ", "fold a +", "fold a + ",
            "fold a + i", "fold a + i<", "fold a + i<1", "fold a + i<1:", "fold a ma", "fold a max", "start",
            "start t", "start t{", "await", "await ", "max", "min", "a=max", "a=$fork", "abcdefgh", "a=b+if",
            "each max", "start if", "await await", "fold fold", "fold a + fold",
        ):
            self.assert_wrong(text, len(text))

    def test_each_beginning_of_a_text(self):
        for text in list(TEXTS) + [Marked(program).text for program, _ in drawn_programs(30)]:
            for length in range(len(text)):
                begin = text[:length]
                try:
                    read_program(begin)
                except InvalidText as error:
                    # Another operation may be needed for a bracket to be none around the whole.
                    if begin[error.at:error.at + 1] != "(":
                        self.assertEqual((begin, error.at), (begin, length))

    def test_a_sign_of_no_text_at_each_place(self):
        for text in TEXTS:
            for at in range(len(text) + 1):
                for sign in "A\n_%/>!)[\u00e4\uff11":
                    if sign != ")" or text[:at].count("(") == text[:at].count(")"):
                        self.assert_wrong(text[:at] + sign + text[at:], at)

    def test_statements(self):
        self.assert_all_wrong((
            (" ", 0), (";", 0), ("=", 0), ("{", 0), ("}", 0), ("1", 0), ("1=a", 0), ("$a=1", 0), ("(a=1)", 0),
            (" a=1", 0), ("a=1 ", 4), ("a=1;;b=1", 4), ("a=1; b=1", 4), ("a=1}", 3), ("a=1{", 3), ("a=1b=1", 3),
            ("a;b=1", 1), ("a{}", 1), ("a-=1", 1), ("a<=1", 1), ("a:1", 1), ("a1=1", 1), ("a=+1", 2), ("a==1", 2),
            ("a = 1", 2), ("a +=1", 2), ("a+1", 2), ("a+ =1", 2), ("a+=+1", 3), ("a max 1", 5), ("a max1", 5),
            ("a maxi=1", 5), ("a mix=1", 4), ("a mox=1", 3), ("a  max=1", 2), ("amax=1;amax1", 11), ("a minx", 5),
            ("a max=", 6), ("a max==1", 6), ("a max= 1", 6), ("a*max=1", 2),
        ))

    def test_expressions(self):
        self.assert_all_wrong((
            ("a=b+c+d", 5), ("a=b max c min d", 9), ("a=b maxc", 7), ("a=b max  c", 8), ("a=bmax c", 7), ("a=b max+c", 7),
            ("a=b  max c", 4), ("a=b +c", 4), ("a=b+ c", 4), ("a=b/c", 3), ("a=b>c", 3), ("a=b++c", 4), ("a=-1", 2),
            ("a=(b)", 4), ("a=((b+c))", 8), ("a=()", 3), ("a=(b+)", 5), ("a=(b+c", 6), ("a=b+c)", 5), ("a=(b+c+d)", 6),
            ("a=(b+c)d", 7), ("a=(b+c)(d+a)", 7), ("a=b(c+d)", 3), ("a=(a=1;b)", 6), ("a=$", 3), ("a=$1", 3),
            ("a=$$i", 3), ("a=$ i", 3), ("a={b}", 2), ("a=b:c", 3), ("a=b,c", 3), ("a=b+c<d", 5), ("a=(b +c)", 5),
            ("a= b", 2), ("a=b max", 7), ("a=b mux c", 5), ("a=b mac c", 6), ("a=(b)+c", 4), ("a=b+(c)", 6),
        ))

    def test_figures(self):
        self.assert_all_wrong((
            ("a=00", 3), ("a=01", 3), ("a=000001", 3), ("a=1b", 3), ("a=b1", 3), ("a=1.5", 3), ("a=1_0", 3), ("a=1e3", 3),
            ("a=0x1", 3), ("a=\u0661", 2), ("a=1\u0661", 3), ("a=1 000", 4), ("a=+0", 2), ("each i<01{}", 8),
        ))

    def test_figures_of_no_value(self):
        self.assert_all_wrong((
            ("a=1000003", 8), ("a=1000009", 8), ("a=1000010", 8), ("a=1000100", 8), ("a=1001000", 8), ("a=2000000", 8),
            ("a=9999999", 8), ("a=10000020", 9), ("a=10000029", 9), ("a=(1000003+1)", 9), ("fold a + i<1:1000009", 19),
        ))

    def test_braces(self):
        self.assert_all_wrong((
            ("if a{}{};", 9), ("if a{}{}{}", 8), ("if a{};b=1", 6), ("if a {}{}", 5), ("if a{} {}", 6),
            ("if a{b=1;}{}", 9), ("if a{;}{}", 5), ("if a{ }{}", 5), ("if (a+b){}{}", 3), ("if{}{}", 2), ("if  a{}{}", 3),
            ("if a;", 4), ("ifa{}{}", 3), ("fork", 4), ("fork;", 4), ("fork {}", 4), ("fork{}{}{}{}{}", 12),
            ("fork{} {}", 6), ("fork{}a=1", 6), ("forka{}", 5), ("fork{a}", 6), ("fork{a=1;}", 9), ("fork{{}}", 5),
            ("each i<1{}{}", 10), ("each i<1", 8), ("each i=1{}", 6), ("each i <1{}", 6), ("each  i<1{}", 5),
            ("each $i<1{}", 5), ("each 1<1{}", 5), ("each i<{}", 7), ("each i< 1{}", 7), ("each i<1;a=1", 8),
            ("each{}", 4), ("each i{}", 6), ("start t", 7), ("start t;", 7), ("start{}", 5), ("start t {}", 7),
            ("start t{}{}", 9), ("start t{};;", 10), ("start 1{}", 6), ("start  t{}", 6), ("await t{}", 7),
            ("await", 5), ("await;", 5), ("await  t", 6), ("await t ", 7), ("await 1", 6), ("start t{}}", 9),
        ))

    def test_folds(self):
        self.assert_all_wrong((
            ("fold a + i<1", 12), ("fold a + i<1:", 13), ("fold a + i<1;", 12), ("fold a + i:1", 10),
            ("fold a +i<1:1", 8), ("fold a+ i<1:1", 6), ("fold a  + i<1:1", 7), ("fold a +  i<1:1", 9),
            ("fold  a + i<1:1", 5), ("fold a < i<1:1", 7), ("fold a = i<1:1", 7), ("fold a / i<1:1", 7),
            ("fold a maxi i<1:1", 10), ("fold a m i<1:1", 8), ("fold a max  i<1:1", 11), ("fold + i<1:1", 5),
            ("fold a i<1:1", 7), ("fold a + i<1:1{}", 14), ("fold a + i<1 :1", 13), ("fold a + i<1: 1", 13),
            ("fold a + i<:1", 11), ("fold a + 1<1:1", 9), ("fold a + $i<1:1", 9), ("fold a + i<1:1:1", 14),
            ("fold a ++ i<1:1", 8), ("folda + i<1:1", 6), ("fold a + i <1:1", 10), ("fold a - i=1:1", 10),
        ))


class Words(Wrong):
    def test_the_ninth_letter(self):
        self.assert_all_wrong((
            ("abcdefghi=1", 8), ("abcdefghijklm=1", 8), ("a=abcdefghi", 10), ("a=$abcdefghi", 11), ("awaitttt=1;abcdefghi", 19),
            ("each abcdefghi<1{}", 13), ("fold abcdefghi", 13), ("fold a + abcdefghi", 17), ("start abcdefghi{}", 14),
            ("await abcdefghi", 14), ("a=(b+abcdefghi)", 13), ("maximums=1;maximumss=1", 19),
        ))

    def test_words_that_are_no_names(self):
        for word in KEYWORDS:
            if word not in ("if", "fork", "each", "fold", "start", "await"):
                self.assert_all_wrong(((word + " max=1", len(word)), (word + "{}", len(word))))
            size = len(word)
            self.assert_all_wrong((
                (word + "=1", size), (word + "+=1", size), ("a=" + word + "+1", 2 + size), ("a=" + word + ";", 2 + size),
                ("a=1+" + word + ";b=1", 4 + size), ("a=(" + word + "+1)", 3 + size), ("a=$" + word + "+1", 3 + size),
                ("each " + word + "<1{}", 5 + size), ("fold " + word + " + i<1:1", 5 + size),
                ("fold a + " + word + "<1:1", 9 + size), ("start " + word + "{}", 6 + size),
                ("start t{};await " + word + ";", 16 + size), ("if " + word + "{}{}", 3 + size),
            ))


class Depth(Wrong):
    def test_the_next_one_behind_forty(self):
        self.assert_all_wrong((
            ("fork{" * 41 + "}" * 41, 41 * 5 - 1), ("start t{" * 41 + "}" * 41, 41 * 8 - 1),
            ("if 1{" * 41 + "}{}" * 41, 41 * 5 - 1), ("each i<1{" * 41 + "}" * 41, 41 * 9 - 1),
            ("a=1+" + "(1+" * 41 + "1" + ")" * 41, 4 + 40 * 3), ("a=" + "(" * 41, 42), ("a=" + "(" * 100, 42),
            ("fork{" * 100, 204), ("fork{" * 20 + "a=1+" + "(" * 21, 20 * 5 + 4 + 20),
            ("fork{" * 40 + "a=1+(2+3)" + "}" * 40, 40 * 5 + 4), ("fork{" * 40 + "}{", 40 * 5 + 2),
            ("fork{" * 40 + "}{}{fork{", 40 * 5 + 8),
        ))

    def test_closed_ones_do_not_count(self):
        for text in (
            "fork{}" + ";fork{}" * 99, "a=(1+2)+(3+4)" + ";a=(1+2)*3" * 99, "if 1{}{}" + ";if (1+2)*3{}{a=1}" * 60,
            "fork{" * 39 + "}{" * 3 + "a=1+(2+3);a=(2+3)+1;fork{}{}" + "}" * 39,
        ):
            self.assertEqual(Marked(read_program(text)).text, text)


class Misplaced(Wrong):
    def test_locals_awaits_and_outermost_brackets(self):
        self.assert_all_wrong((
            ("a=$i", 2), ("a=1+$i", 4), ("a=(1+$i)*2", 5), ("each i<$i{}", 7), ("each i<1{};a=$i", 13),
            ("each i<1{a=$k}", 11), ("fold a + i<$i:1", 11), ("fold a + i<1:$i;b=$i", 18), ("if $i{}{}", 3),
            ("fold a + i<1:$k", 13), ("fold i + a<1:$i", 13), ("start i{a=$i}", 10), ("i=1;a=$i", 6),
            ("await t", 0), ("a=1;await t", 4), ("start t{await t}", 8), ("await t;start t{}", 0),
            ("start u{};await t", 10), ("fork{start t{}};await t", 16), ("fork{start t{}}{await t}", 16),
            ("if 1{start t{}}{await t}", 16), ("start t{start u{}};await u", 19), ("each t<1{await t}", 9),
            ("a=(1+2)", 2), ("a+=(1+2)", 3), ("a max=(1+2)", 6), ("if (a+b){}{}", 3), ("each i<(1+2){}", 7),
            ("fold a + i<(1+2):1", 11), ("fold a + i<1:(1+2)", 13), ("a=((1+2)+3)", 2), ("a=(1+(2+3))", 2),
            ("a=(b max c)", 2), ("a=(b+c);b=1", 2), ("fork{a=(b+c)}", 7),
        ))

    def test_the_first_of_them_by_place(self):
        self.assert_all_wrong((
            ("a=(1+$i)", 2), ("a=$i;await t", 2), ("await t;a=$i", 0), ("await t;a=(1+2)", 0), ("a=(1+2);await t", 2),
            ("a=$i+(1+$k)", 2), ("a=1+($i+$k)", 5), ("a=(($i+1)+2)", 2), ("a=($i+1)+2", 3), ("fork{await t}{a=$i}", 5),
        ))

    def test_behind_all_other_faults(self):
        self.assert_all_wrong((
            ("a=$i;", 5), ("await t;b", 9), ("a=(1+2);b=", 10), ("a=$i;b=01", 8), ("await t;abcdefghi=1", 16),
            ("a=(1+2)+3+4", 9), ("a=(1+2);a=(b)", 12), ("a=$i}", 4), ("await t ", 7), ("a=(1+2))", 7),
            ("a=$i;" + "fork{" * 41, 5 + 41 * 5 - 1), ("a=$i;if=1", 7), ("await t;await", 13),
        ))

    def test_drawn_texts(self):
        wrong = 0
        for seed in range(400):
            brackets = random.Random(seed)
            program = Draw(seed, loose=True).program(longest=2)
            marked = Marked(program, lambda: brackets.random() < 0.2)
            if marked.places:
                wrong += 1
                self.assert_wrong(marked.text, min(marked.places))
                self.assert_wrong(marked.text + ";", len(marked.text) + 1)
            else:
                self.assertEqual(read_program(marked.text), program)
        self.assertGreater(wrong, 100)


if __name__ == "__main__":
    unittest.main()
