import itertools
import random
import unittest

from timegranary.checks import check
from timegranary.errors import NoBody, NoLog
from timegranary.logs import ENDS, GOES, MARKS, Log, line_of, read_line, read_log

# All signs that a body may have, but the percent sign.
SIGNS = "".join(chr(sign) for sign in range(32, 127) if sign != 37)
BODIES = ("", " ", "  ", "flush", "a b", " a", "a ", "1. 6 flush 4992", "put a=b 60 -5", "1", "0", SIGNS, SIGNS * 40)
BAD_SIGNS = ("\n", "\t", "\r", "\x00", "\x1f", "\x7f", "\u00e4", "\u0663")


def model_line(number, body, sign):
    ahead = f"{number}{sign} {len(str(number) + body)} {body}"
    return f"{ahead} {check(ahead)}"


def whole(ahead):
    """A text with its right check behind it."""
    return f"{ahead} {check(ahead)}"


class Lines(unittest.TestCase):
    def test_the_signs(self):
        self.assertEqual((ENDS, GOES, MARKS), (".", "+", "="))

    def test_the_line_of_the_document(self):
        self.assertEqual(line_of(1, "flush"), "1. 6 flush 4992")
        self.assertEqual(read_line("1. 6 flush 4992"), (1, ".", "flush"))

    def test_each_sign_and_body_and_back(self):
        for number, body in itertools.product((0, 1, 9, 10, 123456, 999999999999), BODIES):
            for sign in (ENDS, GOES, MARKS):
                line = line_of(number, body, sign=sign)
                self.assertEqual(line, model_line(number, body, sign))
                told = read_line(line)
                self.assertEqual(told, (number, sign, body))
                self.assertEqual([type(thing) for thing in (told, told[0])], [tuple, int])
            self.assertEqual(line_of(number, body), model_line(number, body, "."))
        self.assertEqual(line_of(sign=GOES, body="x", number=3), model_line(3, "x", "+"))
        self.assertEqual(read_line(line=model_line(3, "x", "+")), (3, "+", "x"))
        with self.assertRaises(TypeError):
            line_of(1, "flush", GOES)

    def test_a_long_line(self):
        body = "put a=b 60 5 " * 20000
        self.assertEqual(read_line(line_of(77, body)), (77, ENDS, body))

    def test_a_body_with_another_sign(self):
        for sign in BAD_SIGNS:
            for body in (sign, "a" + sign, sign + "a", "flush" + sign + "flush"):
                for line_sign in (ENDS, GOES, MARKS):
                    with self.assertRaises(NoBody) as caught:
                        line_of(1, body, sign=line_sign)
                    self.assertIs(caught.exception.body, body)

    def test_what_is_no_line(self):
        good = "1. 6 flush 4992"
        bad = [
            "", " ", "  ", "   ", ".", "1.", "1. ", "1. 1", "1. 1 ", "flush", "0", "1. 6 flush", "1. 6 flush ",
            " " + good, good + " ", good + "\n", "\n" + good, "1.  6 flush 4992", "1. 6  flush 4992",
            "1. 6 flush  4992", "1 . 6 flush 4992", "1.6 flush 4992", "1. 6flush 4992", "1. 6 flush4992",
            "1.\t6 flush 4992", good + good, good + "\n" + good,
        ]
        # A needless 0, anywhere; another or no sign; a wrong count; a wrong check.
        bad += [whole("01. 7 flush"), whole("01. 6 flush"), whole("00. 7 flush"), whole("1. 06 flush")]
        bad += ["1. 6 flush 04992", "1. 6 flush 4991", "1. 6 flush 4993", "1. 6 flush 49922", "1. 6 flush 499"]
        bad += [f"1. 6 flush {4992 + 999983}", "1. 6 flush -4992", "1. 6 flush +4992", "1. 6 flush 4_992"]
        bad += [whole(f"1{sign} 6 flush") for sign in ("", ",", ":", "-", "..", ".+", "+.", "==", "a", " .", "\t", "1")]
        bad += [whole(f"1. {count} flush") for count in ("", "5", "7", "66", "-6", "+6", "6.0", "a", "0", "\u0666")]
        bad += [whole(f"{number}. 6 flush") for number in ("", "-1", "+1", "a", " 1", "1 ", "\u0661", "1_1")]
        bad += [whole("-1. 7 flush"), whole("1. 1"), whole("1."), whole(""), whole(" "), whole("1. ")]
        bad += [whole("1. 7 flu\tsh"), whole("1. 7 flu\nsh"), whole("1. 6 flus\u00e4")]
        # A blank too many or too few behind the body, with a check that is right for it.
        blanks = ("1. 6 flush ", "1. 6  flush", "1.  6 flush", "1. 6flush", "1.6 flush", " 1. 6 flush")
        bad += [whole(ahead) for ahead in blanks]
        for text in bad:
            with self.assertRaises(NoLog, msg=repr(text)) as caught:
                read_line(text)
            self.assertEqual(caught.exception.at, 0)

    def test_a_number_of_more_than_twelve_figures(self):
        self.assertEqual(read_line(model_line(10 ** 12 - 1, "a", ".")), (10 ** 12 - 1, ".", "a"))
        for number in (10 ** 12, 10 ** 13, 10 ** 40):
            for sign in (ENDS, GOES, MARKS):
                with self.assertRaises(NoLog) as caught:
                    read_line(model_line(number, "a", sign))
                self.assertEqual(caught.exception.at, 0)

    def test_each_single_change(self):
        for line in ("1. 6 flush 4992", line_of(10, "a  b", sign=GOES), line_of(0, "", sign=MARKS)):
            for text in changed_texts(line):
                with self.assertRaises(NoLog, msg=text):
                    read_line(text)


def changed_texts(text, until=None, signs=SIGNS + "\n"):
    """The texts with one sign put in, left out, made another, or two unlike neighbours exchanged ahead of a place."""
    until = len(text) if until is None else until
    for place in range(until):
        yield text[:place] + text[place + 1:]
        for sign in signs:
            yield text[:place] + sign + text[place:]
            if sign != text[place]:
                yield text[:place] + sign + text[place + 1:]
        if place + 1 < until and text[place] != text[place + 1]:
            yield text[:place] + text[place + 1] + text[place] + text[place + 2:]
    for sign in signs:
        yield text[:until] + sign + text[until:]


class Logs(unittest.TestCase):
    def state(self, log):
        return log.number, len(log), bool(log), log.lines(), log.text()

    def test_at_first(self):
        self.assertEqual(self.state(Log()), (0, 0, False, [], ""))

    def test_write(self):
        log = Log()
        self.assertEqual(log.write("flush"), "1. 6 flush 4992")
        self.assertEqual(log.write(body=""), line_of(2, ""))
        self.assertEqual(log.number, 2)
        lines = ["1. 6 flush 4992", line_of(2, "")]
        self.assertEqual(self.state(log), (2, 2, True, lines, lines[0] + "\n" + lines[1] + "\n"))

    def test_bundle(self):
        log = Log()
        log.write("a")
        told = log.bundle(["b", "c d", "e"])
        self.assertEqual(told, [line_of(2, "b", sign=GOES), line_of(3, "c d", sign=GOES), line_of(4, "e")])
        self.assertEqual((log.number, len(log), log.lines()[1:]), (4, 4, told))
        self.assertEqual(log.bundle(bodies=("f",)), [line_of(5, "f")])
        self.assertEqual(log.write("g"), line_of(6, "g"))

    def test_bundle_of_none(self):
        for log in (Log(), self.some_log()):
            ahead = self.state(log)
            self.assertEqual(log.bundle([]), [])
            self.assertEqual(self.state(log), ahead)

    def test_mark(self):
        log = Log()
        self.assertEqual(log.mark("at first"), line_of(0, "at first", sign=MARKS))
        self.assertEqual((log.number, len(log), bool(log)), (0, 1, True))
        log.write("a")
        log.bundle(["b", "c"])
        self.assertEqual(log.mark(body="m"), line_of(3, "m", sign=MARKS))
        self.assertEqual(log.mark("n"), line_of(3, "n", sign=MARKS))
        self.assertEqual((log.number, len(log)), (3, 6))
        self.assertEqual(log.write("d"), line_of(4, "d"))

    def some_log(self):
        log = Log()
        log.write("a")
        log.mark("m")
        log.bundle(["b", "c"])
        return log

    def test_refused_and_the_log_goes_on(self):
        for sign in BAD_SIGNS:
            for log in (Log(), self.some_log()):
                ahead, trimmed = self.state(log), log.trimmed().lines()
                bad, worse = "x" + sign, sign + "y"
                deeds = (
                    lambda: log.write(bad), lambda: log.mark(bad), lambda: log.bundle([bad]),
                    lambda: log.bundle(["b", bad, worse]), lambda: log.bundle([bad, worse, "b"]),
                    lambda: log.bundle(["b", "c", bad]),
                )
                for deed in deeds:
                    with self.assertRaises(NoBody) as caught:
                        deed()
                    self.assertIs(caught.exception.body, bad)
                    self.assertEqual(self.state(log), ahead)
                    self.assertEqual(log.trimmed().lines(), trimmed)
                self.assertEqual(log.write("on"), line_of(ahead[0] + 1, "on"))
                self.assertEqual(log.bundle(["o"]), [line_of(ahead[0] + 2, "o")])

    def test_told_lists_are_new_and_handed_ones_not_changed(self):
        log = self.some_log()
        ahead = self.state(log)
        log.lines().append("x")
        self.assertEqual(self.state(log), ahead)
        bodies = ["d", "e"]
        told = log.bundle(bodies)
        self.assertEqual(bodies, ["d", "e"])
        lines = log.lines()
        told.clear()
        bodies.append("f")
        self.assertEqual(log.lines(), lines)

    def test_equal_where_the_lines_are(self):
        one, two = Log(), Log()
        self.assertTrue(one == two)
        one.write("a")
        self.assertFalse(one == two)
        two.bundle(["a"])
        self.assertTrue(one == two)
        self.assertFalse(one != two)
        one.bundle(["b", "c"])
        two.write("b")
        two.write("c")
        self.assertFalse(one == two)
        self.assertTrue(one != two)

    def test_never_equal_to_another_kind(self):
        log = self.some_log()
        for thing in (log.lines(), log.text(), 4, True, None, object(), tuple(log.lines())):
            self.assertFalse(log == thing)
            self.assertFalse(thing == log)
            self.assertTrue(log != thing)
        for thing in ([], "", 0, False, None, ()):
            self.assertFalse(Log() == thing)

    def test_trimmed_without_a_mark(self):
        log = Log()
        self.assertEqual(self.state(log.trimmed()), self.state(Log()))
        log.write("a")
        log.bundle(["b", "c"])
        self.assertTrue(log.trimmed() == log)
        self.assertEqual(log.trimmed().number, 3)

    def test_trimmed_with_marks(self):
        log = self.some_log()
        self.assertEqual(log.trimmed().lines(), log.lines()[1:])
        log.mark("n")
        log.write("d")
        trimmed = log.trimmed()
        self.assertEqual((trimmed.lines(), trimmed.number), ([line_of(3, "n", sign=MARKS), line_of(4, "d")], 4))
        self.assertEqual(trimmed.trimmed().lines(), trimmed.lines())

    def test_a_trimmed_log_goes_on_alike_and_by_itself(self):
        log = self.some_log()
        trimmed = log.trimmed()
        ahead = self.state(log)
        self.assertEqual(trimmed.write("x"), line_of(4, "x"))
        self.assertEqual(trimmed.mark("y"), line_of(4, "y", sign=MARKS))
        self.assertEqual(trimmed.bundle(["z", "z"]), [line_of(5, "z", sign=GOES), line_of(6, "z")])
        self.assertEqual(trimmed.trimmed().lines(), trimmed.lines()[-3:])
        self.assertEqual(self.state(log), ahead)
        self.assertEqual(log.write("other"), line_of(4, "other"))
        self.assertEqual(len(trimmed), 7)


def made_by(deeds):
    """A log by its deeds, each a list of bodies for a bundle, a body, or a tuple with a mark's body."""
    log = Log()
    for deed in deeds:
        if isinstance(deed, list):
            log.bundle(deed)
        elif isinstance(deed, tuple):
            log.mark(deed[0])
        else:
            log.write(deed)
    return log


def model_read(deeds, text):
    """What read_log tells of the beginning of the text of a log by its deeds."""
    made, mark, bodies = Log(), None, []
    for at in range(1, len(deeds) + 1):
        log = made_by(deeds[:at])
        if not text.startswith(log.text()):
            break
        made, deed = log, deeds[at - 1]
        if isinstance(deed, tuple):
            mark, bodies = deed[0], []
        else:
            bodies = bodies + (deed if isinstance(deed, list) else [deed])
    return made.lines(), made.number, mark, bodies, text[len(made.text()):]


HISTORIES = (
    ["flush"],
    ["put a=b 60 5", ["x y", "", "z"], "flush"],
    [("mark",), "a", ["b", "c"], ("second mark",), "d"],
    ["a", ("m",), ("n",), ["b", "c", "d"]],
    [["b", "c"], ("m",)],
    [("m",)],
    ["", " ", [" ", " "], ("",), ""],
    ["a"] * 12 + [("m",)] + ["b"] * 3,
)


class ReadLogs(unittest.TestCase):
    def refused_at(self, text):
        with self.assertRaises(NoLog, msg=text) as caught:
            read_log(text)
        return caught.exception.at

    def test_of_no_line(self):
        told = read_log("")
        self.assertIs(type(told), tuple)
        log, mark, bodies, rest = told
        self.assertTrue(log == Log())
        self.assertEqual((log.number, mark, bodies, rest), (0, None, [], ""))
        log, mark, bodies, rest = read_log(text="what stands here")
        self.assertEqual((len(log), log.number, mark, bodies, rest), (0, 0, None, [], "what stands here"))

    def test_cut_off_at_every_sign(self):
        for deeds in HISTORIES:
            text = made_by(deeds).text()
            for place in range(len(text) + 1):
                log, mark, bodies, rest = read_log(text[:place])
                self.assertEqual((log.lines(), log.number, mark, bodies, rest), model_read(deeds, text[:place]))
                self.assertEqual(log.text() + rest, text[:place])
                self.assertEqual(log.write("on"), line_of(log.number, "on"))

    def test_of_a_trimmed_log_cut_off_at_every_sign(self):
        for deeds in HISTORIES:
            whole_log = made_by(deeds + ["more", ["and", "more"]])
            trimmed = whole_log.trimmed().text()
            for place in range(len(trimmed) + 1):
                log, mark, bodies, rest = read_log(trimmed[:place])
                self.assertEqual(log.text() + rest, trimmed[:place])
                self.assertEqual(len(log) - (mark is not None), len(bodies))
            self.assertTrue(log == whole_log.trimmed())
            self.assertEqual(log.number, whole_log.number)

    def test_within_a_bundle(self):
        lines = [line_of(1, "a"), line_of(2, "b", sign=GOES), line_of(3, "c", sign=GOES), line_of(4, "d")]
        ends = [line + "\n" for line in lines]
        for many in (1, 2, 3):
            log, mark, bodies, rest = read_log("".join(ends[:many]))
            self.assertEqual((log.lines(), log.number, bodies, rest), (lines[:1], 1, ["a"], "".join(ends[1:many])))
            # The numbers of the lines in the rest come again.
            self.assertEqual(log.write("again"), line_of(2, "again"))
        log, mark, bodies, rest = read_log("".join(ends[:3]) + lines[3])
        self.assertEqual((log.lines(), rest), (lines[:1], "".join(ends[1:3]) + lines[3]))
        log, mark, bodies, rest = read_log("".join(ends))
        self.assertEqual((log.lines(), bodies, rest), (lines, ["a", "b", "c", "d"], ""))

    def test_a_deed_that_is_not_whole_as_the_first(self):
        text = line_of(1, "a", sign=GOES) + "\n" + line_of(2, "b", sign=GOES) + "\n"
        log, mark, bodies, rest = read_log(text)
        self.assertEqual((len(log), log.number, mark, bodies, rest), (0, 0, None, [], text))
        self.assertEqual(log.write("on"), line_of(1, "on"))

    def test_behind_a_mark(self):
        first = line_of(41, "all", sign=MARKS) + "\n"
        log, mark, bodies, rest = read_log(first)
        self.assertEqual((log.number, len(log), mark, bodies, rest), (41, 1, "all", [], ""))
        text = first + line_of(42, "a") + "\n" + line_of(43, "b", sign=GOES) + "\n" + "44. 2"
        log, mark, bodies, rest = read_log(text)
        self.assertEqual((log.number, len(log), mark, bodies), (42, 2, "all", ["a"]))
        self.assertEqual(rest, line_of(43, "b", sign=GOES) + "\n44. 2")
        self.assertEqual(log.trimmed().lines(), log.lines())
        self.assertEqual(log.mark("next"), line_of(42, "next", sign=MARKS))
        self.assertEqual(log.trimmed().lines(), [line_of(42, "next", sign=MARKS)])

    def test_the_last_of_several_marks(self):
        log, mark, bodies, rest = read_log(made_by(["a", ("m",), "b", ("n",), ("o",), "c", "d"]).text())
        self.assertEqual((mark, bodies, log.number, len(log)), ("o", ["c", "d"], 4, 7))
        self.assertEqual(log.trimmed().lines()[0], line_of(2, "o", sign=MARKS))

    def test_a_mark_behind_the_rest_is_none(self):
        text = made_by(["a", ("m",), "b"]).text() + line_of(2, "n", sign=MARKS)
        log, mark, bodies, rest = read_log(text)
        self.assertEqual((mark, bodies, rest), ("m", ["b"], line_of(2, "n", sign=MARKS)))

    def test_a_wrong_number(self):
        ends = [line_of(number, "a") + "\n" for number in range(6)]
        self.assertEqual(self.refused_at(ends[0]), 0)
        self.assertEqual(self.refused_at(ends[2]), 0)
        self.assertEqual(self.refused_at(ends[1] + ends[1]), 1)
        self.assertEqual(self.refused_at(ends[1] + ends[3]), 1)
        self.assertEqual(self.refused_at(ends[1] + ends[2] + ends[1]), 2)
        self.assertEqual(self.refused_at(ends[1] + ends[2] + ends[4] + ends[5]), 2)
        goes = [line_of(number, "a", sign=GOES) + "\n" for number in range(6)]
        self.assertEqual(self.refused_at(goes[0]), 0)
        self.assertEqual(self.refused_at(goes[2]), 0)
        self.assertEqual(self.refused_at(goes[1] + ends[1]), 1)
        self.assertEqual(self.refused_at(goes[1] + goes[3]), 1)
        self.assertEqual(self.refused_at(line_of(4, "m", sign=MARKS) + "\n" + ends[4]), 1)
        self.assertEqual(self.refused_at(line_of(3, "m", sign=MARKS) + "\n" + ends[5]), 1)
        self.assertEqual(self.refused_at(line_of(3, "m", sign=MARKS) + "\n" + ends[1]), 1)

    def test_a_mark_within_a_deed_that_goes_on(self):
        goes, mark = line_of(1, "a", sign=GOES) + "\n", line_of(1, "m", sign=MARKS) + "\n"
        self.assertEqual(self.refused_at(goes + mark), 1)
        self.assertEqual(self.refused_at(goes + mark + line_of(2, "b") + "\n"), 1)
        first = line_of(0, "m", sign=MARKS) + "\n"
        self.assertEqual(self.refused_at(first + goes + mark), 2)

    def test_a_mark_of_another_number(self):
        end = line_of(1, "a") + "\n"
        for number in (0, 2, 10):
            self.assertEqual(self.refused_at(end + line_of(number, "m", sign=MARKS) + "\n"), 1)
        first = line_of(5, "m", sign=MARKS) + "\n"
        for number in (4, 6):
            self.assertEqual(self.refused_at(first + line_of(number, "m", sign=MARKS) + "\n"), 1)

    def test_what_is_no_line(self):
        ends = [line_of(number, "a") + "\n" for number in range(1, 5)]
        for bad in ("\n", " \n", "a\n", "1. 6 flush 4993\n", " " + ends[0], ends[0][:-1] + " \n", "\t\n"):
            self.assertEqual(self.refused_at(bad), 0)
            self.assertEqual(self.refused_at("".join(ends[:2]) + bad), 2)
            self.assertEqual(self.refused_at("".join(ends[:2]) + bad + "".join(ends[2:])), 2)
            self.assertEqual(self.refused_at("".join(ends[:2]) + bad + bad), 2)
        self.assertEqual(self.refused_at(line_of(10 ** 12, "m", sign=MARKS) + "\n"), 0)

    def test_the_first_that_is_not_so(self):
        ends = [line_of(number, "a") + "\n" for number in range(1, 9)]
        self.assertEqual(self.refused_at(ends[0] + ends[1] + ends[3] + "no line\n"), 2)
        self.assertEqual(self.refused_at(ends[0] + "no line\n" + ends[3]), 1)

    def test_one_change_ahead_of_the_last_line_end(self):
        for deeds in HISTORIES[:-1]:
            text = made_by(deeds).text()
            for tail in ("", "1. 6"):
                until = len(text) - 1
                for changed in changed_texts(text + tail, until, "\n 01.+=a~" if tail else SIGNS + "\n"):
                    with self.assertRaises(NoLog, msg=changed):
                        read_log(changed)

    def test_one_change_in_a_deed_that_is_not_whole(self):
        text = made_by(["a", ["b", "c", "d"]]).text()
        cut = text[:text.rindex("\n", 0, -1) + 1]
        for changed in changed_texts(cut, len(cut) - 1):
            with self.assertRaises(NoLog, msg=changed):
                read_log(changed)

    def test_one_change_in_a_long_log(self):
        chance = random.Random(22)
        log = made_by([f"put host=web{place} {60 * place} {place}" for place in range(120)])
        text = log.text()
        for round_ in range(300):
            place = chance.randrange(len(text) - 1)
            changed = chance.choice((
                text[:place] + text[place + 1:], text[:place] + chance.choice(SIGNS) + text[place:],
                text[:place] + "\n" + text[place:],
                text[:place] + chance.choice(SIGNS.replace(text[place], "")) + text[place + 1:],
            ))
            line = text.count("\n", 0, place)
            self.assertIn(self.refused_at(changed), (line, line + 1))

    def test_asked_again_the_same_is_told(self):
        text = made_by(HISTORIES[2]).text()
        log, mark, bodies, rest = read_log(text)
        log.write("more")
        bodies.append("x")
        again = read_log(text)
        self.assertEqual((again[0].text(), again[1:]), (text, ("second mark", ["d"], "")))


if __name__ == "__main__":
    unittest.main()
