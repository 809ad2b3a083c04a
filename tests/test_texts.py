import unittest

from aids import maker, numbers, same
from cutyard.errors import NoName, NoText, TooGreat, Twice, YardError
from cutyard.texts import read_plan, write_plan

EIGHT = tuple("abcdefgh")


def unknowns(names):
    return [f"unknown {name} from 0" for name in names]


def text_of(*lines):
    return "\n".join(lines)


class ReadTest(unittest.TestCase):
    def asked(self, text, told):
        self.assertTrue(same(read_plan(text), told), (text, read_plan(text)))

    def test_the_shortest_texts(self):
        self.asked("most 0", ((), ((), (), ()), 1))
        self.asked("least 0", ((), ((), (), ()), -1))

    def test_each_form_of_line(self):
        text = text_of(
            "unknown x from 0",
            "unknown y from -3 to 12",
            "row 2 x + -3 y at least -4",
            "row 2 x + -3 y at most -4",
            "row 7 y at most 9999",
            "row 0 at least 0",
            "row 0 at most 3",
            "most 5 y + 1 x",
        )
        rows = (((2, -3), -4), ((-2, 3), 4), ((0, -7), -9999), ((0, 0), 0), ((0, 0), -3))
        self.asked(text, (("x", "y"), (((0, None), (-3, 12)), rows, (1, 5)), 1))

    def test_sense_least_turns_the_goal(self):
        self.asked("unknown x from 0\nunknown y from 0\nleast 2 x + -3 y",
                   (("x", "y"), (((0, None), (0, None)), (), (-2, 3)), -1))

    def test_the_terms_may_stand_in_any_order_and_have_0(self):
        self.asked("unknown x from 0\nunknown y from 0\nrow 3 y + 0 x at least 1\nmost 0 y",
                   (("x", "y"), (((0, None), (0, None)), (((0, 3), 1),), (0, 0)), 1))

    def test_least_above_most(self):
        self.asked("unknown x from 5 to -5\nmost 1 x", (("x",), (((5, -5),), (), (1,)), 1))

    def test_names_like_the_words_of_the_lines(self):
        words = ("at", "to", "from", "least", "most", "row", "unknown")
        text = text_of(*unknowns(words), "row 1 at + 2 least + 3 to at least 4", "row 5 most at most 6",
                       "row 7 at at least 8", "least 1 least + 2 from + 3 row")
        rows = (((1, 3, 0, 2, 0, 0, 0), 4), ((0, 0, 0, 0, -5, 0, 0), -6), ((7, 0, 0, 0, 0, 0, 0), 8))
        self.asked(text, (words, (((0, None),) * 7, rows, (0, 0, -2, -1, 0, -3, 0)), -1))

    def test_an_unknown_called_from_or_to(self):
        self.asked("unknown from from 1 to 2\nunknown to from 3\nmost 1 to",
                   (("from", "to"), (((1, 2), (3, None)), (), (0, 1)), 1))

    def test_numbers_and_names_at_their_edges(self):
        name = "abcdefghijkl"
        self.asked(f"unknown {name} from -9999 to 9999\nrow -1000 {name} at least 10\nmost 9 {name}",
                   ((name,), (((-9999, 9999),), (((-1000,), 10),), (9,)), 1))
        self.asked("unknown z from 0 to 0\nmost 0", (("z",), (((0, 0),), (), (0,)), 1))

    def test_eight_unknowns_and_twelve_rows(self):
        text = text_of(*unknowns(EIGHT), *(["row 1 h at least 1"] * 12), "most 1 a")
        self.asked(text, (EIGHT, (((0, None),) * 8, (((0,) * 7 + (1,), 1),) * 12, (1,) + (0,) * 7), 1))


class RefusedTest(unittest.TestCase):
    def refused(self, text, cls, at):
        with self.subTest(text):
            with self.assertRaises(YardError) as caught:
                read_plan(text)
            self.assertIs(type(caught.exception), cls)
            self.assertTrue(same(caught.exception.at, at), caught.exception.at)

    def test_the_text_without_signs(self):
        self.refused("", NoText, 1)

    def test_no_worth_line(self):
        self.refused("unknown x from 0", NoText, 1)
        self.refused("unknown x from 0\nunknown y from 0\nrow 1 x at least 2", NoText, 3)

    def test_lines_behind_the_worth_line(self):
        self.refused("most 0\n", NoText, 2)
        self.refused("most 0\nmost 0", NoText, 2)
        self.refused("most 0\nrow 0 at least 0", NoText, 2)
        self.refused("most 0\nunknown x from 0\nmost 0", NoText, 2)
        self.refused("unknown x from 0\nmost 1 x\nunknown x from 0", NoText, 3)
        self.refused("most 0\nrow 1 z at least 0", NoText, 2)

    def test_an_unknown_behind_a_row(self):
        self.refused("unknown x from 0\nrow 1 x at least 2\nunknown y from 0\nmost 0", NoText, 3)
        self.refused("unknown x from 0\nrow 1 x at least 2\nunknown x from 0\nmost 0", NoText, 3)
        self.refused(text_of(*unknowns(EIGHT), "row 0 at least 0", "unknown i from 0", "most 0"), NoText, 10)

    def test_wrong_lines(self):
        lines = (
            "", " ", "x", "unknown", "row", "most", "least", "most ", "least 1", "most x", "unknown x",
            "unknown y from", "unknown y from ", "unknown y to 3", "unknown y from 1 to", "unknown y from 1 to ",
            "unknown y from 1 from 2", "unknown y to 1 from 2", "unknown y from 1 to 2 to 3", "unknown from 1",
            "unknown y 1", "unknown 1 from 1", "unknown y from x", "unknown y at 1", "known y from 1",
            "Unknown y from 1", "unknown y from 1 to x",
            "row at least 1", "row  at least 1", "row x at least 1", "row 1 at least 1", "row 1 x at least",
            "row 1 x at least ", "row 1 x least 1", "row 1 x at 1", "row 1 x at more 1", "row 1 x at least x",
            "row 1 x to least 1", "row 1 x", "row x 1 at least 1", "row 1 x + at least 1", "row + 1 x at least 1",
            "row 1 x 1 x at least 1", "row 1 x - 1 x at least 1", "row 0 + 1 x at least 1", "row 1 x + 0 at least 1",
            "row -0 at least 1", "row 1 x at least 1 1", "row 1 x + x at least 1", "row 1x at least 1",
            "row 1 x at least 1 at most 2", "row 0 0 at least 1", "row 1 x + 2 at least 3",
            "row 1 x ++ 1 x at least 1",
            "rows 1 x at least 1", "Row 1 x at least 1", "at least 1", "most 1 x +", "most + 1 x", "most 1 x 2",
            "most 1 x + 2", "least x 1", "mostly 1 x", "Most 1 x", "most 1 x at least 1", "back", "ask",
        )
        for line in lines:
            self.refused(text_of("unknown x from 0", line, "most 0"), NoText, 2)
            self.refused(text_of("unknown x from 0", line), NoText, 2)

    def test_wrong_blanks(self):
        for line in ("unknown y from 1", "unknown y from 1 to 2", "row 1 x at least 1", "row 2 x at most 3", "most 1 x"):
            wrong = [" " + line, line + " "]
            for place, sign in enumerate(line):
                if sign == " ":
                    wrong.append(line[:place] + " " + line[place:])
                    wrong.append(line[:place] + line[place + 1:])
                    wrong.append(line[:place] + "_" + line[place + 1:])
            for other in wrong:
                self.refused(text_of("unknown x from 0", other, "most 0"), NoText, 2)

    def test_wrong_numbers(self):
        for number in ("-0", "00", "01", "-01", "0001", "10000", "-10000", "12345", "00000", "+1", "--1", "-", "1-",
                       "1.0", "1,0", "1_0", "0x1", "a", "1a", "", "- 1", "-+1"):
            self.refused(f"unknown y from {number}\nmost 0", NoText, 1)
            self.refused(f"unknown y from 0 to {number}\nmost 0", NoText, 1)
            self.refused(f"unknown x from 0\nrow 1 x at least {number}\nmost 0", NoText, 2)
            self.refused(f"unknown x from 0\nrow {number} x at most 1\nmost 0", NoText, 2)
            self.refused(f"unknown x from 0\nmost {number} x", NoText, 2)

    def test_wrong_names(self):
        for name in ("abcdefghijklm", "X", "xY", "x1", "1", "x-", "x_y", "_", "x.y", "", "~", "{", "`"):
            self.refused(f"unknown {name} from 0\nmost 0", NoText, 1)
            self.refused(f"unknown x from 0\nrow 1 {name} at least 1\nmost 0", NoText, 2)
            self.refused(f"unknown x from 0\nmost 1 {name}", NoText, 2)

    def test_an_unknown_that_comes_twice(self):
        self.refused("unknown x from 0\nunknown x from 1\nmost 0", Twice, 2)
        self.refused("unknown x from 0\nunknown y from 1\nunknown x from 0\nmost 0", Twice, 3)

    def test_the_ninth_unknown(self):
        self.refused(text_of(*unknowns(EIGHT), "unknown i from 0", "most 0"), TooGreat, 9)
        self.refused(text_of(*unknowns(EIGHT), "unknown i from 0 to 4", "unknown a from 0"), TooGreat, 9)

    def test_the_ninth_unknown_that_comes_twice(self):
        self.refused(text_of(*unknowns(EIGHT), "unknown c from 0", "most 0"), Twice, 9)

    def test_strange_names_in_sums(self):
        self.refused("most 1 x", NoName, 1)
        self.refused("least 0 x", NoName, 1)
        self.refused("unknown x from 0\nrow 1 y at least 1\nmost 0", NoName, 2)
        self.refused("unknown x from 0\nrow 1 x + 0 y at most 1\nmost 0", NoName, 2)
        self.refused("unknown x from 0\nrow 0 at least 1\nmost 1 x + 2 xx", NoName, 3)
        self.refused("row 1 x at least 1\nunknown x from 0\nmost 0", NoName, 1)

    def test_names_that_come_twice_in_a_sum(self):
        self.refused("unknown x from 0\nrow 1 x + 1 x at least 1\nmost 0", Twice, 2)
        self.refused("unknown x from 0\nrow 0 x + 0 x at least 1\nmost 0", Twice, 2)
        self.refused("unknown x from 0\nunknown y from 0\nmost 1 x + 1 y + 2 x", Twice, 3)

    def test_strange_names_and_twice_in_either_order(self):
        ahead = "unknown x from 0\n"
        for line in ("row 1 z + 1 x + 1 x at least 1", "row 1 x + 1 z + 1 x at most 1", "row 1 z + 1 z at least 1",
                     "most 1 z + 1 x + 1 x", "least 1 z + 1 z"):
            self.refused(ahead + line, NoName, 2)
        for line in ("row 1 x + 1 x + 1 z at least 1", "most 1 x + 2 x + 1 z"):
            self.refused(ahead + line, Twice, 2)

    def test_the_thirteenth_row(self):
        rows = ["row 1 x at least 1"] * 12
        self.refused(text_of("unknown x from 0", *rows, "row 0 at least 1", "most 0"), TooGreat, 14)
        self.refused(text_of("unknown x from 0", *rows, "row 0 at most 1", "what"), TooGreat, 14)

    def test_the_thirteenth_row_has_its_sum_looked_at_first(self):
        rows = ["row 1 x at least 1"] * 12
        self.refused(text_of("unknown x from 0", *rows, "row 1 y at least 1", "most 0"), NoName, 14)
        self.refused(text_of("unknown x from 0", *rows, "row 1 x + 1 x at least 1", "most 0"), Twice, 14)
        self.refused(text_of("unknown x from 0", *rows, "row 1 x at least 01", "most 0"), NoText, 14)
        self.refused(text_of("unknown x from 0", *rows, "unknown x from 0", "most 0"), NoText, 14)

    def test_a_line_that_is_none_is_refused_ahead_of_its_names(self):
        self.refused("unknown x from 0\nunknown x from 01\nmost 0", NoText, 2)
        self.refused("unknown x from 0\nrow 1 z at least 01\nmost 0", NoText, 2)
        self.refused("unknown x from 0\nmost 1 z + 1", NoText, 2)

    def test_the_first_line_amiss_is_told(self):
        self.refused("unknown x from 0\nrow 1 y at least 1\nwhat\nmost 0", NoName, 2)
        self.refused("what\nrow 1 y at least 1", NoText, 1)
        self.refused("unknown x from 0\nunknown x from 0\nwhat", Twice, 2)
        self.refused("unknown x from 0\nmost 1 y\nmost 0", NoName, 2)

    def test_nothing_hangs_on_a_refusal_ahead(self):
        told = read_plan("unknown x from 0\nmost 1 x")
        self.refused("unknown x from 0\nrow 1 x + 1 x at least 1\nmost 0", Twice, 2)
        self.assertTrue(same(read_plan("unknown x from 0\nmost 1 x"), told))


class WriteTest(unittest.TestCase):
    def test_the_very_text(self):
        plan = (((0, None), (-3, 12)), (((2, -3), -4), ((0, 0), 0), ((0, 7), 1)), (0, -5))
        ahead = "unknown x from 0\nunknown y from -3 to 12\nrow 2 x + -3 y at least -4\nrow 0 at least 0\nrow 7 y at least 1\n"
        self.assertTrue(same(write_plan(("x", "y"), plan, 1), ahead + "most -5 y"))
        self.assertTrue(same(write_plan(("x", "y"), plan, -1), ahead + "least 5 y"))

    def test_no_unknowns_no_rows(self):
        self.assertTrue(same(write_plan((), ((), (), ()), 1), "most 0"))
        self.assertTrue(same(write_plan((), ((), (), ()), -1), "least 0"))
        self.assertTrue(same(write_plan((), ((), (((), -3), ((), 4)), ()), 1), "row 0 at least -3\nrow 0 at least 4\nmost 0"))

    def test_a_most_of_0_is_written(self):
        self.assertEqual(write_plan(("x",), (((-1, 0),), (), (0,)), 1), "unknown x from -1 to 0\nmost 0")

    def test_the_terms_stand_in_the_order_of_the_unknowns(self):
        plan = (((0, None), (0, None)), (((1, 2), 3),), (4, 5))
        self.assertEqual(write_plan(("z", "a"), plan, 1),
                         "unknown z from 0\nunknown a from 0\nrow 1 z + 2 a at least 3\nmost 4 z + 5 a")

    def test_what_is_written_is_read_as_the_same(self):
        names = ("at", "to", "from", "least", "most", "row", "unknown", "abcdefghijkl")
        chance = maker(21)
        for turn in range(200):
            n = chance.randint(0, 8)
            size = chance.choice((1, 20, 9999))
            bounds = tuple((chance.randint(-size, size), chance.choice((None, 0, chance.randint(-size, size))))
                           for _ in range(n))
            rows = tuple((numbers(chance, n, size), chance.randint(-size, size)) for _ in range(chance.randint(0, 12)))
            three = (names[:n], (bounds, rows, numbers(chance, n, size)), chance.choice((1, -1)))
            self.assertTrue(same(read_plan(write_plan(*three)), three), three)


if __name__ == "__main__":
    unittest.main()
