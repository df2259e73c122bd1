import random
import unittest

from plain import Checks, odd_values, plain_bad_line
from queueloops.desk import Desk, desk_text, read_desk
from queueloops.errors import BadDesk
from test_desk import TEXT, small_desk, stands

WHOLE = """stand 9
note abc 0
note b 7
note bb 12
device d 2
stage 0 1
stage 0 2
least r d 3
run q r queue 2
slots q 2 0 2
device e 1
stage 0 1 2 3
rule s e 0 1 2
run o s any 3
slots o - -1,0 -2 -
copy q p
drop q
slots p 1
least t e 0"""
LINES = WHOLE.split("\n")


def spoilt(number, line):
    """The text with another line of this number, from 1."""
    return "\n".join(LINES[:number - 1] + [line] + LINES[number:])


class TextChecks(Checks):
    def bad(self, number, text):
        self.raises(BadDesk, number, read_desk, text)
        if type(text) is str:
            self.assertEqual(plain_bad_line(text), number)


class WriteTest(TextChecks):
    def test_to_the_letter(self):
        desk = Desk()
        self.assertEqual(desk_text(desk), "stand 0")
        desk.note("none")
        self.assertEqual(desk_text(desk), "stand 0\nnote none 0")
        for deed, line in ((("device", "d", TEXT), "device d 2\nstage 0 1\nstage 0 2"),
                           (("device", "six", "\n".join(["stage 1000000 0"] * 6)),
                            "device six 6" + "\nstage 1000000 0" * 6),
                           (("rule", "r", "d", ((0, 0), (1, 0), (0, 1))), "rule r d 00 10 01"),
                           (("rule", "abcdefgh", "six", ((1, 1, 1, 1, 1, 1),)), "rule abcdefgh six 111111"),
                           (("least", "l", "d", 3), "least l d 3"), (("least", "zero", "d", 0), "least zero d 0"),
                           (("run", "q", "r", ("queue", 4)), "run q r queue 4"),
                           (("run", "o", "l", ("order", 1)), "run o l order 1"),
                           (("run", "a", "l", ("any", 3)), "run a l any 3"),
                           (("slots", "q", (0, 3, 0)), "slots q 0 3 0"), (("slots", "o", ((), (3,), ())), "slots o - -3 -"),
                           (("slots", "a", ((0, 3, 1), (), (2,))), "slots a -0,3,1 - -2"),
                           (("copy", "a", "b"), "copy a b"), (("drop", "a"), "drop a")):
            ahead = desk_text(desk).split("\n")[1:]
            desk.lead(deed)
            many = len(desk.all_deeds()[0])
            self.assertEqual(desk_text(desk), "\n".join(["stand %d" % many] + ahead + [line]))
            self.assertEqual(desk_text(read_desk(desk_text(desk))), desk_text(desk))

    def test_undone_deeds_and_notes(self):
        desk = small_desk()
        desk.note("zz")
        for _ in range(3):
            desk.undo()
        desk.note("a")
        self.assertEqual(desk_text(desk).split("\n"),
                         ["stand 5", "note a 5", "note zz 8", "device d 2", "stage 0 1", "stage 0 2", "least r d 3",
                          "run q r queue 2", "slots q 2", "device e 1", "stage 0 1 2", "rule s e 0 1", "run o s any 2",
                          "slots o -1,0 - -1"])

    def test_400_and_1000(self):
        desk = read_desk("stand 0\ndevice d 5\nstage 0 1 2 3\nstage 0 4 8 12\nstage 0 16 32 48\nstage 0 64 128 192\n"
                         "stage 0 256\nleast r d 400\nrun q r any 1\nslots q -400 - -0")
        self.assertEqual(desk_text(desk).split("\n")[7:], ["least r d 400", "run q r any 1", "slots q -400 - -0"])
        desk.note("a")
        for _ in range(4):
            desk.redo()
        self.assertEqual(desk.thing_of("q").script, ((400,), (), (0,)))
        for _ in range(9):
            desk.lead(("slots", "q", ((),) * 100))
        self.assertEqual(desk_text(read_desk(desk_text(desk))), desk_text(desk))
        self.assertEqual(read_desk(desk_text(desk)).thing_of("q").slot, 903)


class ReadTest(TextChecks):
    def test_whole(self):
        desk = read_desk(WHOLE)
        self.assertIs(type(desk), Desk)
        self.assertEqual(desk_text(desk), WHOLE)
        self.assertEqual(desk.names, ("d", "e", "o", "p", "q", "r", "s"))
        self.assertEqual(desk.notes(), (("abc", 0), ("b", 7), ("bb", 12)))
        self.assertEqual(desk.all_deeds()[1], (("drop", "q"), ("slots", "p", (1,)), ("least", "t", "e", 0)))
        self.assertEqual([desk.thing_of("q").script, desk.thing_of("p").script], [(2, 0, 2), (2, 0, 2)])
        self.assertEqual(desk.thing_of("o").script, ((), (1, 0), (2,), ()))
        self.assertIsNone(plain_bad_line(WHOLE))

    def test_each_number_that_can_stand(self):
        for many in range(13):
            text = spoilt(1, "stand %d" % many)
            desk = read_desk(text)
            self.assertEqual([len(deeds) for deeds in desk.all_deeds()], [many, 12 - many])
            self.assertEqual(desk_text(desk), text)
            desk.back("bb")
            self.assertEqual(desk_text(desk), spoilt(1, "stand 12"))
            desk.back("abc")
            self.assertEqual([desk_text(desk), desk.names], [spoilt(1, "stand 0"), ()])

    def test_the_read_desk_goes_on_as_the_other_one(self):
        one, two = small_desk(), None
        one.note("a")
        one.undo()
        one.note("b")
        two = read_desk(desk_text(one))
        for step in (lambda desk: desk.undo(), lambda desk: desk.note("c"), lambda desk: desk.redo(),
                     lambda desk: desk.redo(), lambda desk: desk.back("c"), lambda desk: desk.lead(("copy", "q", "p")),
                     lambda desk: desk.lead(("slots", "p", (2, 1))), lambda desk: desk.back("c"),
                     lambda desk: desk.redo(), lambda desk: desk.thing_of("p").go_on(2)):
            step(one)
            step(two)
            self.assertEqual(stands(one), stands(two))
            self.assertEqual(stands(read_desk(desk_text(one))), stands(one))

    def test_equal_texts_give_desks_that_do_not_share(self):
        one, two = read_desk(WHOLE), read_desk(WHOLE)
        one.lead(("drop", "q"))
        self.assertEqual(desk_text(two), WHOLE)

    def test_what_is_no_string(self):
        for value in odd_values() + [0, [WHOLE], (WHOLE,), {WHOLE: 1}, small_desk()]:
            if type(value) is not str:
                self.bad(0, value)

    def test_first_lines(self):
        for line in ("", "stand", "stand ", "stand  0", "stand 00", "stand 01", "stand -1", "stand +1", "stand 1.0",
                     "stand x", "stand 1 ", " stand 1", "stand 1 2", "Stand 1", "note a 1", "stand 1000000000", "stands 1",
                     "stand 0x1", "stand 1_0", "drop d", "device d 1", "stand\t1"):
            self.bad(1, line)
            self.bad(1, spoilt(1, line))
        self.bad(1, "")
        self.bad(2, "stand 0\n")
        self.bad(2, "stand 0\n\n")
        self.bad(1, "\nstand 0")

    def test_notes(self):
        for line in ("note", "note b", "note b ", "note  b 7", "note b 07", "note b -7", "note b x", "note B 7", "note b7 7",
                     "note abcdefghi 7", "note b 7 ", "note b 7 7", "Note b 7", "note  7", "note b 1000000000", " note b 7",
                     "note abc 7", "note abb 7", "note a 7", "note b_ 7", "notes b 7", ""):
            self.bad(3, spoilt(3, line))
        for line in ("note abca 7", "note abd 7", "note b 12", "note b 0", "note ba 9"):
            self.assertEqual(desk_text(read_desk(spoilt(3, line))), spoilt(3, line))
        self.bad(4, spoilt(3, "note bb 7"))
        self.bad(4, spoilt(3, "note c 7"))
        self.bad(len(LINES) + 1, WHOLE + "\nnote z 1")
        self.bad(8, spoilt(8, "note z 1"))
        self.bad(8, spoilt(8, "stand 3"))

    def test_lines_of_deeds(self):
        for number, lines in (
                (5, ("device", "device d", "device d 0", "device d 02", "device d -2", "device d x", "device d 2 ",
                     "device d 2 2", "device D 2", "device  2", "device d  2", "Device d 2", "device abcdefghi 2",
                     "device d 1000000000", " device d 2", "device d1 2", "")),
                (8, ("least", "least r", "least r d", "least r d ", "least r d x", "least r d 03", "least r d -1",
                     "least r d 3 3", "least R d 3", "least r D 3", "least r x 3", "least d d 3", "least r d 4",
                     "least r d 401", "least r d 1000000000", "least  r d 3", "least r d 3 ", "Least r d 3", "rest r d 3")),
                (9, ("run", "run q", "run q r", "run q r queue", "run q r queue 0", "run q r queue 5", "run q r queue 02",
                     "run q r line 2", "run q r  2", "run q r queue x", "run q r queue 2 2", "run q d queue 2",
                     "run q x queue 2", "run r r queue 2", "run Q r queue 2", "run q r queue 2 ", "run q r Queue 2",
                     "run q R queue 2", "run q r queue -2", "run q r queue 2000000000")),
                (10, ("slots", "slots q", "slots q ", "slots q 3", "slots q 2 2 2 2", "slots q 02", "slots q -", "slots q -1",
                      "slots q x", "slots x 2", "slots r 2", "slots q 2  2", "slots q 2 ", "slots Q 2", "slots q 2,0",
                      "slots q" + " 0" * 101, "slots q --1", "slots q +1", "slots q 1000000000", "slots  2")),
                (13, ("rule", "rule s", "rule s e", "rule s e ", "rule s e 1", "rule s e 0 2", "rule s e 0 x",
                      "rule s e 00 10", "rule s e 0  1", "rule s d 0 1", "rule s x 0 1", "rule s r 0 1", "rule d e 0",
                      "rule S e 0", "rule s e 0 1 ", "rule s e 4", "rule s e 0,1", "rule s e -0", "rule s E 0", "rule  e 0",
                      "rule s e 0 1 2 3 4")),
                (15, ("slots o 1", "slots o", "slots o -3 x", "slots o -1,", "slots o -,1", "slots o -01", "slots o -1,,0",
                      "slots o -1,1", "slots o -0,1,2,1", "slots o -3", "slots o --", "slots o -1, 0", "slots o - 0",
                      "slots o ,", "slots o -1.0", "slots o -1000000000", "slots o -x", "slots p -1", "slots o -1,-1")),
                (16, ("copy", "copy q", "copy q p p", "copy x p", "copy q q", "copy q d", "copy q P", "copy q ", "copy  p",
                      "copy q p ", "Copy q p", "copy q abcdefghi", "copy q p1")),
                (17, ("drop", "drop x", "drop q q", "drop Q", "drop ", "drop  q", "drop q ", "Drop q", "undo", "x",
                      "drop abcdefghi", "back b"))):
            for line in lines:
                self.bad(number, spoilt(number, line))

    def test_a_deed_that_is_refused_tells_its_first_line(self):
        for number, line in ((6, "stage 0"), (6, ""), (7, "stage 0 0"), (7, "x"), (12, "stage 0 1 2 3 4"), (12, "drop d"),
                             (7, "stage 0 1000001"), (6, "stage 0 01"), (12, " stage 0 1")):
            self.bad(11 if number == 12 else 5, spoilt(number, line))
        self.bad(2, "stand 0\ndevice d 7" + "\nstage 0 1" * 7)
        self.bad(4, "stand 0\ndevice d 1\nstage 0 1\ndevice d 1\nstage 0 1")
        self.bad(2, "stand 0\ndevice d 2\nstage 0 1\n")

    def test_lines_that_are_lacking(self):
        self.bad(3, "stand 0\ndevice d 1")
        self.bad(4, "stand 0\ndevice d 2\nstage 0 1")
        self.bad(4, "stand 0\ndevice d 999999999\nx")
        # The name is held, and the text is none: that the lines are lacking is told all the same.
        self.bad(7, "stand 0\ndevice d 1\nstage 0 1\ndevice d 3\nx\ny")
        self.bad(5, "stand 9\nnote a 99\ndevice d 8\nx")
        # But what is wrong ahead of it is told first, and so is a first line that has not its form.
        self.bad(2, "stand 0\ndrop d\ndevice d 3\nstage 0 1")
        for line in ("device D 9", "device d 09", "device d 9 ", "device abcdefghi 9", "device d", "device 9"):
            self.bad(2, "stand 0\n" + line + "\nstage 0 1")
        self.bad(3, "stand 0\nnote b 1\nnote a 1\ndevice d 9")
        self.bad(5, "stand 0\ndevice d 2\nstage 0 1\nstage 0 2\n")

    def test_lines_cut_off(self):
        told = set()
        for many in range(1, len(LINES)):
            text = "\n".join(LINES[:many])
            number = plain_bad_line(text)
            told.add(number)
            self.bad(number, text) if number else self.assertEqual(desk_text(read_desk(text)), text)
        # Of stand and the notes, the number of stand is told first; lacking lines are told ahead of both.
        self.assertEqual(told, {1, 4, 6, 7, 12})

    def test_lines_left_out_or_twice(self):
        for number in range(1, len(LINES) + 1):
            line = LINES[number - 1]
            for text in ("\n".join(LINES[:number - 1] + LINES[number:]), spoilt(number, line + "\n" + line)):
                told = plain_bad_line(text)
                self.bad(told, text) if told else self.assertEqual(desk_text(read_desk(text)), text)

    def test_numbers_that_are_too_great(self):
        for number in (13, 14, 999999999):
            self.bad(1, spoilt(1, "stand %d" % number))
            self.bad(2, spoilt(2, "note abc %d" % number))
            self.bad(3, spoilt(3, "note b %d" % number))
            self.bad(4, spoilt(4, "note bb %d" % number))
        self.bad(1, "stand 1")
        self.bad(2, "stand 0\nnote a 1")
        self.bad(1, "stand 1\nnote a 1")
        self.bad(3, "stand 0\nnote a 0\nnote b 1\nnote c 1")
        # All else is told ahead of them.
        for text, number in (("stand 9\nx", 2), ("stand 9\nnote a 9\nnote a 9", 3), ("stand 9\ndevice d 1\nstage 0", 2),
                             ("stand 9\nnote a 9\ndrop d", 3), ("stand 1\ndevice d 1\nstage 0 1\n", 4)):
            self.bad(number, text)
        self.bad(1, "stand 2\nnote a 2\ndevice d 1\nstage 0 1")
        self.bad(2, "stand 1\nnote a 2\ndevice d 1\nstage 0 1")

    def test_made_texts(self):
        """Lines spoilt by chance, beside a plain reader."""
        choice, told = random.Random(95), []
        pieces = ["", " ", "-", ",", "0", "1", "2", "3", "9", "a", "d", "q", "r", "o", "x", "D", "\n", "stage 0 1",
                  "note c 3", "drop q", "device z 1", "00", "--", " 2", " -", "-1"]
        for _ in range(6000):
            text = WHOLE
            for _ in range(choice.choice((1, 1, 2))):
                at = choice.randrange(len(text) + 1)
                text = text[:at] + choice.choice(pieces) + text[at + choice.choice((0, 0, 1, 1, 2, 9)):]
            number = plain_bad_line(text)
            told.append(number)
            if number is None:
                self.assertEqual(desk_text(read_desk(text)), text)
            else:
                self.raises(BadDesk, number, read_desk, text)
        self.assertGreater(told.count(None), 100)
        self.assertGreater(len(set(told)), 15)


if __name__ == "__main__":
    unittest.main()
