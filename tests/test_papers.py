import unittest

from samples import LATER
from wayorring.errors import BadLine, BadPaper, WayError
from wayorring.papers import Paper, read_paper, write_paper

ROW = "input a from 0 to 9"
LIKE = "found 1\non\ntext 2\n\nplace row 3\nnone\n\ndead 0\nmet 1"
PLACE = ("place", "row 3 then fault 5 index")
KINDS = (("on",), ("dead", (4, 0, 7)), ("on",), ("over",), ("on",), ("met", ((3, 4), (3,))))

PAPERS = (
    Paper(ROW, PLACE, ("none",), (("over",),)),
    Paper(ROW + "\nskip", PLACE, ("found", (3, -2)), KINDS),
    Paper(LIKE, ("place", "found 1"), ("found", (-1,)), (("met", ((0,),)),)),
    Paper(LATER, ("apart", "one row"), ("none",), (("dead", (0,)),)),
    Paper(ROW, ("apart", LIKE), ("found", (0, 0, 0, -5, 1000000000, -1000000000)), KINDS[::-1]),
    Paper("", ("place", ""), ("none",), (("on",),)),
    Paper("\n", ("apart", ""), ("none",), (("over",),)),
    Paper("\n\n a", ("apart", "\n"), ("found", (7,)), (("over",),)),
    Paper("a\rb\tc", ("place", " place  row\t3 \r"), ("none",), (("over",),)),
    Paper("a\x0bb\x0cc\x1cd\u2028e", ("apart", "text\x85\r\n\r"), ("none",), (("over",),)),
)


class WriteTest(unittest.TestCase):

    def check(self, paper, *rows):
        self.assertEqual(write_paper(paper), "\n".join(rows))

    def test_a_place_and_none(self):
        self.check(
            Paper(ROW, PLACE, ("none",), (("over",),)), "text 1", ROW, "place row 3 then fault 5 index", "none", "over")

    def test_texts_of_several_rows(self):
        self.check(
            Paper("a\nb\nc", ("apart", "d\ne"), ("none",), (("on",),)), "text 3", "a", "b", "c", "apart 2", "d", "e",
            "none", "on")
        self.check(Paper("a", ("apart", "d"), ("none",), (("on",),)), "text 1", "a", "apart 1", "d", "none", "on")

    def test_empty_rows(self):
        self.check(
            Paper("", ("apart", "\n\n"), ("none",), (("on",),)), "text 1", "", "apart 3", "", "", "", "none", "on")
        self.check(Paper("\na\n", ("place", ""), ("none",), (("on",),)), "text 3", "", "a", "", "place ", "none", "on")

    def test_rows_that_look_like_those_of_a_paper(self):
        self.check(
            Paper("found 1\non\ntext 2", ("apart", "none\nover\nplace x"), ("none",), (("over",),)),
            "text 3", "found 1", "on", "text 2", "apart 3", "none", "over", "place x", "none", "over")

    def test_only_a_newline_parts_rows(self):
        self.check(
            Paper("a\rb\x0bc\u2028d", ("apart", "e\x0cf\x85g"), ("none",), (("on",),)), "text 1", "a\rb\x0bc\u2028d",
            "apart 1", "e\x0cf\x85g", "none", "on")

    def test_found_inputs(self):
        for inputs, row in (
            ((3,), "found 3"), ((-7,), "found -7"), ((0, -2), "found 0 -2"), ((1, 2, 3), "found 1 2 3"),
            ((1, 2, 3, 4), "found 1 2 3 4"), ((-1, -2, -3, -4, -5), "found -1 -2 -3 -4 -5"),
            ((1000000000, -1000000000, 0, 0, 5, 60), "found 1000000000 -1000000000 0 0 5 60"),
        ):
            self.check(Paper("a", ("place", "b"), ("found", inputs), (("on",),)), "text 1", "a", "place b", row, "on")

    def test_tokens(self):
        for token, row in (
            (("on",), "on"), (("over",), "over"), (("dead", (0,)), "dead 0"), (("dead", (4, 0, 7)), "dead 4 0 7"),
            (("dead", tuple(range(30))), "dead " + " ".join(str(number) for number in range(30))),
            (("met", ((5,),)), "met 5"), (("met", ((3, 4), (3,))), "met 3,4 3"),
            (("met", ((12, 0, 4, 30),)), "met 12,0,4,30"),
            (("met", ((1,), (3,), (5,), (7,), (9,), (11,))), "met 1 3 5 7 9 11"),
            (("met", ((1, 2), (3, 4, 5), (5,), (7, 0), (9,))), "met 1,2 3,4,5 5 7,0 9"),
        ):
            self.check(Paper("a", ("place", "b"), ("none",), (token,)), "text 1", "a", "place b", "none", row)

    def test_sixty_tokens(self):
        paper = Paper("a", ("place", "b"), ("none",), KINDS * 10)
        rows = ["on", "dead 4 0 7", "on", "over", "on", "met 3,4 3"] * 10
        self.check(paper, "text 1", "a", "place b", "none", *rows)
        self.assertTrue(read_paper(write_paper(paper)).same(paper))


class ReadTest(unittest.TestCase):

    def test_what_was_written_comes_back(self):
        for paper in PAPERS:
            told = (paper.text, paper.subject, paper.verdict, paper.tokens)
            back = read_paper(write_paper(paper))
            self.assertEqual((back.text, back.subject, back.verdict, back.tokens), told)
            self.assertTrue(back.same(paper))
            self.assertTrue(paper.same(back))
            self.assertEqual((paper.text, paper.subject, paper.verdict, paper.tokens), told)

    def test_tuples_throughout(self):
        back = read_paper("text 1\na\nplace b\nfound 3 -2\non\ndead 1 2\nover\nmet 3,4 5")
        for held in (back.subject, back.verdict, back.verdict[1], back.tokens, back.tokens[3][1], *back.tokens):
            self.assertIsInstance(held, tuple)
        self.assertIsInstance(back.tokens[1][1], tuple)
        for floor in back.tokens[3][1]:
            self.assertIsInstance(floor, tuple)
        self.assertEqual(back.verdict, ("found", (3, -2)))
        self.assertEqual(back.tokens, (("on",), ("dead", (1, 2)), ("over",), ("met", ((3, 4), (5,)))))

    def test_attributes(self):
        paper = Paper("a", ("place", "b"), ("none",), (("on",),))
        self.assertEqual(
            (paper.text, paper.subject, paper.verdict, paper.tokens), ("a", ("place", "b"), ("none",), (("on",),)))

    def test_same(self):
        told = (ROW, PLACE, ("found", (3,)), (("on",), ("over",)))
        paper = Paper(*told)
        self.assertIs(paper.same(Paper(*told)), True)
        self.assertIs(paper.same(paper), True)
        others = (
            ((ROW + " ",), 0), ((("place", "row 4"), ("apart", PLACE[1])), 1),
            ((("none",), ("found", (4,)), ("found", (3, 3))), 2),
            (((("on",),), (("over",), ("on",)), (("on",), ("over",), ("over",)), ()), 3),
        )
        for values, at in others:
            for value in values:
                changed = list(told)
                changed[at] = value
                self.assertIs(paper.same(Paper(*changed)), False)
                self.assertIs(Paper(*changed).same(paper), False)

    def test_twelve_digits_are_read(self):
        big = 999999999999
        rows = f"text 1\na\nplace b\nfound {big} -{big}\ndead {big} 0\nmet {big},1 2,{big}"
        back = read_paper(rows)
        self.assertEqual(back.verdict, ("found", (big, -big)))
        self.assertEqual(back.tokens, (("dead", (big, 0)), ("met", ((big, 1), (2, big)))))

    def test_zero_is_read(self):
        back = read_paper("text 1\na\nplace b\nfound 0 0\ndead 0\nmet 0,0 0")
        self.assertEqual((back.verdict, back.tokens), (("found", (0, 0)), (("dead", (0,)), ("met", ((0, 0), (0,))))))


class BadPaperTest(unittest.TestCase):

    def check(self, text, row):
        with self.assertRaises(BadPaper) as caught:
            read_paper(text)
        self.assertEqual(caught.exception.row, row, text)

    def check_rows(self, rows, row):
        self.check("\n".join(rows), row)

    def test_the_kind_of_error(self):
        for kind in (BadPaper, BadLine, WayError, ValueError):
            with self.assertRaises(kind):
                read_paper("text")

    def test_the_first_row(self):
        for row in (
            "", "text", "text ", "text 0", "text -1", "text 01", "text +1", "text  1", " text 1", "text 1 ", "text 1 1",
            "text a", "Text 1", "texts 1", "apart 1", "text1", "text 1.0", "text\t1", "text 1000000000000",
            "text \u0661", "text \u00b2", "text 1\r", "1", "text,1", "text 1,", "place 1", "none",
        ):
            self.check_rows([row, "a", "place b", "none", "on"], 1)

    def test_the_subject(self):
        for row in (
            "", "place", "apart", "apart ", "apart 0", "apart -1", "apart 01", "apart  1", " apart 1", "apart 1 ",
            "apart 1 1", "apart a", "apart 1000000000000", " place b", "Place b", "places b", "plac e", "none",
            "found 1", "place\tb", "text 1", "apart \u0661",
        ):
            self.check_rows(["text 2", "a", "text 1", row, "none", "none", "on"], 4)

    def test_the_verdict(self):
        for row in (
            "", "none ", " none", "none 1", "nothing", "found", "found ", "found  1", "found 1 ", "found a", " found 1",
            "found 01", "found -0", "found +1", "found - 1", "found --1", "found 1  2", "found 1,2", "found -01",
            "found -", "found 1000000000000", "found -1000000000000", "found 1 2 3 x", "found 1 00", "foun 1",
            "Found 1", "on", "found \u00b2", "found 1.5", "found 1_0", "dead 1", "met 1",
        ):
            self.check_rows(["text 1", "a", "place b", row, "on"], 4)
            self.check_rows(["text 1", "a", "apart 1", "b", row, "on"], 5)

    def test_tokens(self):
        for row in (
            "", "on ", " on", "on 1", "On", "over ", " over", "over 1", "dead", "dead ", "dead  1", "dead 1 ",
            " dead 1", "dead -1", "dead 1 -1", "dead -0", "dead 01", "dead 1 00", "dead a", "dead 1,2", "dead 1  2",
            "dead +1", "dead 1000000000000", "dead 1 1000000000000", "met", "met ", "met  1", "met 1 ", " met 1",
            "met -1", "met 1,-1", "met -0", "met 01", "met 1,02", "met a", "met 1,", "met ,1", "met ,", "met 1,,2",
            "met 1  2", "met 1, 2", "met 1 ,2", "met 1000000000000", "met 1,1000000000000", "none", "found 1",
            "met 1;2", "way", "dead \u0661", "met \u00b2", "dead 1_0",
        ):
            self.check_rows(["text 1", "a", "place b", "none", row], 5)
            self.check_rows(["text 1", "a", "place b", "none", "on", "dead 1", row, "on", "nothing"], 7)

    def test_a_number_of_rows_that_is_too_great(self):
        rows = ["text 1", "a", "place b", "none", "over"]
        for many in (4, 5, 6, 99, 999999999999):
            self.check_rows([f"text {many}"] + rows[1:], 6)
        self.check_rows(["text 2"] + rows[1:], 4)
        self.check_rows(["text 3"] + rows[1:], 5)
        apart = ["text 1", "a", "apart 2", "b", "c", "none", "over"]
        self.check_rows(apart[:2] + ["apart 3"] + apart[3:], 7)
        for many in (4, 5, 999999999999):
            self.check_rows(apart[:2] + [f"apart {many}"] + apart[3:], 8)

    def test_a_number_of_rows_that_is_too_small(self):
        self.check_rows(["text 1", "a", "b", "place b", "none", "over"], 3)
        self.check_rows(["text 1", "a", "apart 1", "b", "c", "none", "over"], 5)

    def test_rows_that_are_missing(self):
        self.check("", 1)
        for paper in PAPERS[:2] + PAPERS[3:4]:
            rows = write_paper(paper).split("\n")
            least = len(rows) - len(paper.tokens) + 1
            for many in range(1, least):
                self.check_rows(rows[:many], many + 1)
            for many in range(least, len(rows) + 1):
                self.assertEqual(read_paper("\n".join(rows[:many])).tokens, paper.tokens[:many - least + 1])

    def test_an_empty_row_behind_the_last(self):
        for paper in PAPERS:
            text = write_paper(paper)
            self.check(text + "\n", len(text.split("\n")) + 1)

    def test_the_first_row_that_is_wrong(self):
        self.check_rows(["text 1", "a", "place b", "none 1", "on 1"], 4)
        self.check_rows(["text 1", "a", "apart 1", "b", "none", "on", "on 1", "dead"], 7)


if __name__ == "__main__":
    unittest.main()
