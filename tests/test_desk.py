import unittest
from fractions import Fraction

from aids import dot, maker, meets_all, same
from cutyard.desk import Desk
from cutyard.first import first
from cutyard.plans import givens
from cutyard.settle import settled
from cutyard.texts import read_plan
from refusals import refusal

START = ("unknown x from 0 to 3", "unknown y from 0", "row 1 x + 2 y at most 7", "most 1 x + 3 y")
WRITTEN = "unknown x from 0 to 3\nunknown y from 0\nrow -1 x + -2 y at least -7\nmost 1 x + 3 y"


def told(*lines):
    """A desk that was told these lines."""
    desk = Desk()
    for line in lines:
        if desk.say(line) != "ok":
            raise AssertionError(line)
    return desk


class DeskCase(unittest.TestCase):
    def says(self, desk, line, answer):
        heard = desk.say(line)
        self.assertIs(type(heard), str)
        self.assertEqual(heard, answer)

    def refused(self, desk, line, name):
        """The line is refused by that name, and nothing is changed by it."""
        before = desk.say("write")
        self.assertEqual(refusal(desk.say, line), name, line)
        self.assertEqual(desk.say("write"), before)

    def compare_ask(self, heard, names, plan, sense):
        verdict = settled(plan)
        words = heard.split(" ")
        self.assertEqual(words[0], verdict[0])
        if words[0] == "none":
            self.assertEqual(words, ["none"])
            return
        n = len(names)
        if words[0] == "best":
            self.assertEqual(int(words[1]), sense * dot(plan[2], verdict[1]))
            parts = words[2:]
        else:
            self.assertEqual(words[1 + 2 * n], "by")
            ray = self.read_spot(words[2 + 2 * n:], names)
            self.assertTrue(all(dot(entries, ray) >= 0 for entries, bound in givens(plan)))
            self.assertGreater(dot(plan[2], ray), 0)
            parts = words[1:1 + 2 * n]
        spot = self.read_spot(parts, names)
        self.assertTrue(meets_all(givens(plan), spot))
        if words[0] == "best":
            self.assertEqual(int(words[1]), sense * dot(plan[2], spot))

    def read_spot(self, words, names):
        self.assertEqual(tuple(words[::2]), names)
        self.assertEqual(len(words), 2 * len(names))
        return tuple(int(word) for word in words[1::2])


class ChangesTest(DeskCase):
    def test_at_first(self):
        desk = Desk()
        self.says(desk, "write", "most 0")
        self.says(desk, "ask", "best 0")
        self.says(desk, "try", "meets 0")
        self.says(desk, "fractions", "best 0")
        self.refused(desk, "back", "NoChange")
        self.refused(desk, "take 0", "NoRow")
        self.refused(desk, "try 0", "NoText")

    def test_each_line_is_answered_ok(self):
        desk = Desk()
        for line in START + ("least 2 x", "row 0 at least -3", "row 1 y at most 4", "take 1", "back", "most 0"):
            self.says(desk, line, "ok")
        self.says(desk, "write", "unknown x from 0 to 3\nunknown y from 0\nrow -1 x + -2 y at least -7\n"
                                 "row 0 at least -3\nrow -1 y at least -4\nmost 0")

    def test_no_unknowns(self):
        desk = told("row 0 at least -2", "row 0 at most 0")
        self.says(desk, "ask", "best 0")
        self.says(desk, "fractions", "best 0")
        self.says(desk, "write", "row 0 at least -2\nrow 0 at least 0\nmost 0")
        desk.say("least 0")
        self.says(desk, "ask", "best 0")
        self.says(desk, "try", "meets 0")
        self.says(desk, "write", "row 0 at least -2\nrow 0 at least 0\nleast 0")
        desk.say("row 0 at least 1")
        self.says(desk, "ask", "none")
        self.says(desk, "fractions", "none")
        self.says(desk, "try", "misses row 2")

    def test_a_new_unknown_behind_rows_and_a_goal(self):
        desk = told(*START, "unknown z from -2 to 5")
        self.says(desk, "write", "unknown x from 0 to 3\nunknown y from 0\nunknown z from -2 to 5\n"
                                 "row -1 x + -2 y at least -7\nmost 1 x + 3 y")
        self.says(desk, "try 1 3 5", "meets 10")
        self.says(desk, "try 1 3 6", "misses unknown z")
        desk.say("most 1 z + 1 x")
        self.says(desk, "ask", "best 8 x 3 y 0 z 5")
        desk.say("least 1 z")
        desk.say("unknown w from 0")
        self.says(desk, "fractions", "best -2")
        desk.say("row 1 w + 1 z at least 4")
        self.says(desk, "write", "unknown x from 0 to 3\nunknown y from 0\nunknown z from -2 to 5\nunknown w from 0\n"
                                 "row -1 x + -2 y at least -7\nrow 1 z + 1 w at least 4\nleast 1 z")

    def test_unknowns_refused(self):
        desk = told(*START)
        self.refused(desk, "unknown x from 0", "Twice")
        self.refused(desk, "unknown y from 5 to 4", "Twice")
        for name in ("a", "b", "c", "d", "e", "f"):
            self.says(desk, f"unknown {name} from 0", "ok")
        self.refused(desk, "unknown g from 0", "TooGreat")
        self.refused(desk, "unknown x from 0", "Twice")

    def test_rows_refused(self):
        desk = told(*START)
        self.refused(desk, "row 1 z at least 0", "NoName")
        self.refused(desk, "row 1 x + 1 x at least 0", "Twice")
        # Name by name.
        self.refused(desk, "row 1 x + 1 x + 1 z at least 0", "Twice")
        self.refused(desk, "row 1 z + 1 x + 1 x at least 0", "NoName")
        self.refused(desk, "row 1 z + 1 z at most 0", "NoName")
        for _ in range(11):
            self.says(desk, "row 0 x at least 0", "ok")
        self.refused(desk, "row 1 x at least 0", "TooGreat")
        self.refused(desk, "row 1 x + 1 x at least 0", "Twice")
        self.refused(desk, "row 1 z at least 0", "NoName")
        desk.say("take 11")
        self.says(desk, "row 1 x at least 0", "ok")

    def test_worths_refused(self):
        desk = told(*START)
        for word in ("most", "least"):
            self.refused(desk, f"{word} 1 z", "NoName")
            self.refused(desk, f"{word} 1 x + 0 x", "Twice")
            self.refused(desk, f"{word} 1 x + 0 x + 1 z", "Twice")
            self.refused(desk, f"{word} 1 z + 0 x + 1 x", "NoName")

    def test_take(self):
        desk = told(*START, "row 1 y at least 1", "row 1 x at least 2")
        for line in ("take 3", "take -1", "take 9999", "take -9999"):
            self.refused(desk, line, "NoRow")
        self.says(desk, "take 1", "ok")
        self.says(desk, "write", WRITTEN.replace("\nmost", "\nrow 1 x at least 2\nmost"))
        self.says(desk, "take 0", "ok")
        self.says(desk, "take 0", "ok")
        self.refused(desk, "take 0", "NoRow")

    def test_back_over_each_sort_of_line(self):
        desk = Desk()
        texts = []
        lines = START + ("row 1 x at least 1", "take 0", "least 1 y", "unknown z from 4", "most 1 z + -1 x", "take 0",
                         "most 1 z + -1 x")
        for line in lines:
            texts.append(desk.say("write"))
            self.says(desk, line, "ok")
        while texts:
            # Lines that change nothing, and refused ones, aren't taken back.
            desk.say("ask")
            self.refused(desk, "take 12", "NoRow")
            self.says(desk, "back", "ok")
            self.says(desk, "write", texts.pop())
        self.refused(desk, "back", "NoChange")
        self.says(desk, "write", "most 0")

    def test_back_isnt_taken_back(self):
        desk = told(*START)
        desk.say("back")
        desk.say("back")
        self.says(desk, "write", "unknown x from 0 to 3\nunknown y from 0\nmost 0")
        desk.say("most 1 y")
        desk.say("back")
        self.says(desk, "write", "unknown x from 0 to 3\nunknown y from 0\nmost 0")

    def test_back_over_a_line_that_left_all_as_it_stood(self):
        desk = told(*START, "most 1 x + 3 y", "most 1 x + 3 y")
        desk.say("back")
        desk.say("back")
        self.says(desk, "write", WRITTEN)
        desk.say("back")
        self.says(desk, "write", WRITTEN.replace("most 1 x + 3 y", "most 0"))

    def test_back_takes_the_sense_back(self):
        desk = told(*START, "least 1 x + 3 y")
        self.says(desk, "ask", "best 0 x 0 y 0")
        desk.say("back")
        self.says(desk, "ask", "best 10 x 1 y 3")

    def test_names_like_words_of_the_desk(self):
        words = ("at", "least", "most", "row", "unknown", "back", "ask", "try")
        desk = Desk()
        for name in words:
            self.says(desk, f"unknown {name} from 0 to 2", "ok")
        self.says(desk, "row 1 at + 1 least + 1 most at least 4", "ok")
        self.says(desk, "row 1 row + 1 at at most 3", "ok")
        self.says(desk, "least 1 most + 2 least + 1 at", "ok")
        self.says(desk, "write", "\n".join(f"unknown {name} from 0 to 2" for name in words)
                  + "\nrow 1 at + 1 least + 1 most at least 4\nrow -1 at + -1 row at least -3\n"
                    "least 1 at + 2 least + 1 most")
        self.says(desk, "ask", "best 4 at 2 least 0 most 2 row 0 unknown 0 back 0 ask 0 try 0")
        self.says(desk, "try 2 0 2 0 0 0 0 0", "meets 4")
        self.says(desk, "try 2 0 2 0 0 3 0 0", "misses unknown back")
        desk = told("unknown take from 0", "unknown fractions from 1", "unknown write from 0", "unknown by from 0",
                    "unknown best from 0", "most 1 by", "row 1 by + -1 best at most 0")
        heard = desk.say("ask")
        self.assertTrue(heard.startswith("endless take "))
        self.compare_ask(heard, *read_plan(desk.say("write")))


class QuestionsTest(DeskCase):
    def test_ask(self):
        desk = told(*START)
        self.says(desk, "ask", "best 10 x 1 y 3")
        desk.say("row 1 x at least 3")
        self.says(desk, "ask", "best 9 x 3 y 2")
        desk.say("row 1 y at least 3")
        self.says(desk, "ask", "none")
        desk.say("least 1 y")
        self.says(desk, "ask", "none")
        desk = told("unknown x from -2 to 3", "unknown y from -5", "most 1 x")
        heard = desk.say("ask").split(" ")
        self.assertEqual((heard[:4], heard[4], len(heard)), (["best", "3", "x", "3"], "y", 6))

    def test_ask_endless(self):
        desk = told("unknown x from 3", "unknown y from 0 to 0", "most 1 x")
        self.says(desk, "ask", "endless x 3 y 0 by x 1 y 0")
        desk.say("least 1 x")
        self.says(desk, "ask", "best 3 x 3 y 0")
        desk.say("least -1 x")
        self.says(desk, "ask", "endless x 3 y 0 by x 1 y 0")

    def test_ask_with_the_other_sense(self):
        desk = told("unknown x from 2 to 5", "least 3 x")
        self.says(desk, "ask", "best 6 x 2")
        desk.say("most 3 x")
        self.says(desk, "ask", "best 15 x 5")
        desk.say("least -3 x")
        self.says(desk, "ask", "best -15 x 5")

    def test_try(self):
        desk = told(*START, "row 1 x at least 1", "unknown z from -3 to -1")
        self.says(desk, "try 1 3 -1", "meets 10")
        self.says(desk, "try 3 0 -3", "meets 3")
        self.says(desk, "try 4 -1 0", "misses unknown x")
        self.says(desk, "try -1 3 -1", "misses unknown x")
        self.says(desk, "try 0 -1 0", "misses unknown y")
        self.says(desk, "try 0 9 0", "misses unknown z")
        self.says(desk, "try 0 9 -4", "misses unknown z")
        self.says(desk, "try 0 9 -2", "misses row 0")
        self.says(desk, "try 0 3 -2", "misses row 1")
        desk.say("take 0")
        self.says(desk, "try 0 9 -2", "misses row 0")
        self.says(desk, "try 1 9999 -2", "meets 29998")
        desk.say("least 1 x + 3 y")
        self.says(desk, "try 1 9999 -2", "meets 29998")
        desk.say("least -1 x")
        self.says(desk, "try 2 0 -2", "meets -2")

    def test_fractions(self):
        desk = told(*START)
        self.says(desk, "fractions", "best 21/2")
        desk.say("least -1 x + -3 y")
        self.says(desk, "fractions", "best -21/2")
        desk.say("most 1 x")
        self.says(desk, "fractions", "best 3")
        desk.say("least 1 x")
        self.says(desk, "fractions", "best 0")
        desk.say("most 6 y")
        self.says(desk, "fractions", "best 21")
        desk.say("take 0")
        self.says(desk, "fractions", "endless")
        desk.say("row 1 x at least 4")
        self.says(desk, "fractions", "none")
        desk = told("unknown x from -9", "row 6 x at least -10", "most -4 x")
        self.says(desk, "fractions", "best 20/3")
        desk.say("most -9 x")
        self.says(desk, "fractions", "best 15")
        # None in whole numbers, but in fractions.
        desk.say("row 6 x at most -10")
        self.says(desk, "fractions", "best 15")
        self.says(desk, "ask", "none")

    def test_write(self):
        desk = told(*START)
        self.says(desk, "write", WRITTEN)
        desk.say("least 0 x + -3 y")
        self.says(desk, "write", WRITTEN.replace("most 1 x + 3 y", "least -3 y"))

    def test_questions_change_nothing(self):
        desk = told(*START)
        for line in ("ask", "try 0 0", "fractions", "write", "try 9 9", "ask"):
            desk.say(line)
            self.says(desk, "write", WRITTEN)
        desk.say("back")
        self.says(desk, "write", WRITTEN.replace("most 1 x + 3 y", "most 0"))

    def test_great_worths(self):
        desk = told("unknown x from 0 to 9999", "unknown y from 0", "row 9999 x + -1 y at least 0", "most 9999 y")
        self.says(desk, "ask", f"best {9999 ** 3} x 9999 y {9999 ** 2}")
        desk = told("unknown a from 1", *[f"unknown {name} from 0" for name in "bcdefgh"],
                    *[f"row 1 {one} + -9999 {other} at least 0" for one, other in zip("bcdefgh", "abcdefg")],
                    "least 9999 h")
        self.says(desk, "ask", f"best {9999 ** 8} " + " ".join(f"{name} {9999 ** k}" for k, name in enumerate("abcdefgh")))

    def test_two_desks(self):
        one, other = told(*START), Desk()
        self.says(other, "write", "most 0")
        self.refused(other, "back", "NoChange")
        other.say("unknown x from 1")
        self.says(one, "write", WRITTEN)
        one.say("back")
        self.says(other, "write", "unknown x from 1\nmost 0")


class NoTextTest(DeskCase):
    def test_lines_that_are_none(self):
        desk = told(*START)
        lines = (
            "", " ", "x", "ok", "none", "ask ", " ask", "ask 1", "ASK", "Ask", "ask\n", "\nask", "ask\nask", "asks",
            "write 1", "write ", "fractions 1", "fraction", "back 1", "back ", "backs", "back\n", "Back",
            "take", "take ", "take  0", "take x", "take 0 0", "take 00", "take -0", "take +0", "take 10000", "take 0\n",
            "take 0.", "take 1e1", "Take 0",
            "try", "try ", "try 0", "try 0 0 0", "try 0  0", "try 0 0 ", " try 0 0", "try 0 -0", "try 00 0", "try 0 10000",
            "try 0 x", "try x 0 y 0", "try 0,0", "try 0 0\n", "try 0\n0", "Try 0 0", "try 0 +1",
            "unknown", "unknown z", "unknown z from", "unknown from 0", "unknown z from 00", "unknown z from -0",
            "unknown z from 10000", "unknown z from 0 to", "unknown z from 0 to x", "unknown z from 0 to -0",
            "unknown z from 0 to 3 ", "unknown  z from 0", "unknown z  from 0", "unknown Z from 0", "unknown z1 from 0",
            "unknown abcdefghijklm from 0", "unknown z from 0\n", "unknown z\n from 0", "Unknown z from 0",
            "unknown z at 0", "unknown z from 0 at 3", "unknown z from 0 to 3 to 4", "unknown z y from 0",
            "row", "row 1 x", "row 1 x at", "row 1 x at least", "row 1 x least 0", "row x at least 0",
            "row 1 x + at least 0", "row 1 x + 1 at least 0", "row 1 x - 1 y at least 0", "row 1 x 1 y at least 0",
            "row + 1 x at least 0", "row 1x at least 0", "row 1 x+1 y at least 0", "row 1 x at least 0 ",
            "row 1 x  at least 0", "row 1 x at least -0", "row 1 x at least 10000", "row 10000 x at least 0",
            "row 1 x at Least 0", "row 1 X at least 0", "row at least 0", "row 1 at least 0", "row 0 + 1 x at least 0",
            "row 1 x at least 0\n", "row 1 x\nat least 0", "row 1 x at exactly 0", "rows 1 x at least 0",
            "most", "most ", "most 1", "most x", "most 1 x +", "most 1 x 1 y", "most 1 x + 1", "most 0 + 1 x", "most  0",
            "most 0 ", "most 00", "most -0", "most 1 x\n", "Most 0", "least", "least 1 x + ", "least\n0", "most 10000 x",
            "\t", "most 1\tx", "ask\tnow", "unknown z from 0\nunknown w from 0", WRITTEN,
        )
        for line in lines:
            self.refused(desk, line, "NoText")
        self.says(desk, "write", WRITTEN)
        # None of them was a change.
        desk.say("back")
        self.says(desk, "write", WRITTEN.replace("most 1 x + 3 y", "most 0"))

    def test_what_is_just_allowed(self):
        desk = Desk()
        for line in ("unknown abcdefghijkl from -9999 to 9999", "unknown y from 9999 to -9999", "row 0 at least -9999",
                     "row 0 y + 0 abcdefghijkl at most 9999", "most -9999 y", "take 1", "back", "least 0"):
            self.says(desk, line, "ok")
        self.says(desk, "try -9999 9999", "misses unknown y")
        self.says(desk, "ask", "none")

    def test_no_text_comes_first(self):
        desk = told(*START)
        for line in ("unknown x from 00", "unknown x", "row 1 z at least 00", "row 1 x + 1 x at least", "most 1 z + 1",
                     "take 99999", "row 1 z + 1 Z at least 0"):
            self.refused(desk, line, "NoText")
        for name in "abcdef":
            desk.say(f"unknown {name} from 0")
        for _ in range(11):
            desk.say("row 0 at least 0")
        self.refused(desk, "unknown g from", "NoText")
        self.refused(desk, "row 0 at least", "NoText")
        self.refused(desk, "unknown abcdefghijklm from 0", "NoText")

    def test_numbers_behind_try(self):
        desk = Desk()
        for n, name in enumerate("abcdefgh"):
            for many in range(10):
                line = " ".join(["try"] + ["0"] * many)
                if many == n:
                    self.says(desk, line, "meets 0")
                else:
                    self.refused(desk, line, "NoText")
            desk.say(f"unknown {name} from 0")


NAMES = ("x", "y", "at", "least", "to")


def made_line(chance):
    terms = [f"{chance.randint(-3, 3)} {name}" for name in chance.sample(NAMES, chance.randint(0, 3))]
    total = " + ".join(terms) or "0"
    kind = chance.choice(("unknown", "unknown", "row", "row", "worth", "worth", "take", "back"))
    if kind == "unknown":
        least = chance.randint(-5, 2)
        most = chance.choice(("", "", "", f" to {least + chance.randint(0, 6)}"))
        return f"unknown {chance.choice(NAMES)} from {least}{most}"
    if kind == "row":
        return f"row {total} at {chance.choice(('least', 'most'))} {chance.randint(-9, 9)}"
    if kind == "worth":
        return f"{chance.choice(('least', 'most'))} {total}"
    return f"take {chance.randint(-1, 4)}" if kind == "take" else "back"


class MadeUpTest(DeskCase):
    def desks(self, seed, many):
        """Desks behind made-up lines, each with the text that it writes."""
        chance = maker(seed)
        for _ in range(many):
            desk = told(*[f"unknown {name} from {chance.randint(-2, 2)}" for name in NAMES[:chance.randint(0, 5)]])
            for _ in range(chance.randint(0, 25)):
                line = made_line(chance)
                before = desk.say("write")
                if refusal(desk.say, line) is not None:
                    self.assertEqual(desk.say("write"), before)
            yield desk, desk.say("write")

    def test_what_is_written_stands_the_same(self):
        for desk, text in self.desks(450, 150):
            second = told(*text.split("\n"))
            self.says(second, "write", text)
            for line in ("ask", "fractions"):
                self.says(second, line, desk.say(line))

    def test_against_the_plan(self):
        words = {}
        for desk, text in self.desks(451, 300):
            names, plan, sense = read_plan(text)
            heard = desk.say("ask")
            words[heard.split(" ")[0]] = words.get(heard.split(" ")[0], 0) + 1
            self.compare_ask(heard, names, plan, sense)
            self.compare_fractions(desk.say("fractions"), plan, sense)
        self.assertEqual(set(words), {"best", "none", "endless"})
        self.assertGreater(min(words.values()), 20, words)

    def compare_fractions(self, heard, plan, sense):
        ending = first(givens(plan), plan[2])
        if ending[0] != "best":
            self.assertEqual(heard, ending[0])
            return
        tops, bottom = ending[1]
        self.assertEqual(heard, f"best {sense * Fraction(dot(plan[2], tops), bottom)}")

    def test_try_against_the_plan(self):
        chance = maker(452)
        sorts = {}
        for desk, text in self.desks(453, 200):
            names, plan, sense = read_plan(text)
            for _ in range(5):
                spot = tuple(least + chance.randint(-1, 3) for least, most in plan[0])
                heard = desk.say(" ".join(["try"] + [str(number) for number in spot]))
                self.assertEqual(heard, self.expected_try(names, plan, sense, spot))
                sort = " ".join(heard.split(" ")[:2]) if heard.startswith("misses") else "meets"
                sorts[sort] = sorts.get(sort, 0) + 1
        self.assertEqual(set(sorts), {"meets", "misses unknown", "misses row"})
        self.assertGreater(min(sorts.values()), 50)

    def expected_try(self, names, plan, sense, spot):
        for name, number, (least, most) in zip(names, spot, plan[0]):
            if number < least or (most is not None and number > most):
                return f"misses unknown {name}"
        for k, (entries, bound) in enumerate(plan[1]):
            if dot(entries, spot) < bound:
                return f"misses row {k}"
        return f"meets {sense * dot(plan[2], spot)}"

    def test_the_text_read_stands_the_same(self):
        for desk, text in self.desks(454, 60):
            names, plan, sense = read_plan(text)
            other = told(*text.split("\n"))
            self.assertTrue(same(read_plan(other.say("write")), (names, plan, sense)))


if __name__ == "__main__":
    unittest.main()
