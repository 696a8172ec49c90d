"""A desk: a store that is told deeds and asked questions by rows of text."""

from timegranary.asks import Frame, answered
from timegranary.errors import Gone, NoNumber, NoSeries, NoText, TooLate
from timegranary.store import KEEPS, WIDTHS, Store, do_deed
from timegranary.texts import (
    DEEDS, NOTHING, ask_of, deed_of, fold_text, labels_of, point_text, ratio_text, stretch_of, stretch_text,
    text_or_nothing, whole_of, wishes_of,
)

MOST_WINDOWS = 200


def lines_or_nothing(lines):
    """Lines with line ends between."""
    return "\n".join(lines) or NOTHING


def words_or_nothing(words):
    """Words with blanks between."""
    return " ".join(words) or NOTHING


def deed_answer(store, deed):
    """Do a deed, and answer it."""
    told = do_deed(store, deed)
    if deed[0] == "expire":
        return words_or_nothing([text_or_nothing(horizon) for horizon in told])
    if deed[0] == "forget":
        return str(told)
    if deed[0] == "flush":
        return words_or_nothing([str(weight) for weight in store.weights()])
    return str(store.number)


def split_words(text, many):
    """The first words of a text and what stands behind them, so many in all; None where there are fewer."""
    words = text.split(" ", many - 1)
    return words if len(words) == many else None


def stretch_and_wishes(text):
    """The start, end and wishes that a text writes, None where it writes none."""
    words = split_words(text, 2)
    stretch = None if words is None else stretch_of(words[0])
    wishes = None if words is None else wishes_of(words[1])
    return None if stretch is None or wishes is None else (*stretch, wishes)


def frame_and_rest(text):
    """The frame that the first three words of a text write, and the text behind; None where they write none."""
    words = split_words(text, 4)
    if words is None:
        return None
    start, step, many = [whole_of(word) for word in words[:3]]
    if start is None or step is None or many is None or step < 1 or not 1 <= many <= MOST_WINDOWS:
        return None
    return Frame(start, step, many), words[3]


def frame_and_wishes(text):
    """The frame and the wishes that a text writes, None where it writes none."""
    told = frame_and_rest(text)
    wishes = None if told is None else wishes_of(told[1])
    return None if wishes is None else (told[0], wishes)


def found_answer(store, text, number):
    """The answer to found, None where the text asks nothing."""
    wishes = wishes_of(text)
    if wishes is None:
        return None
    return lines_or_nothing([str(labels) for labels in store.found(wishes, number=number)])


def points_answer(store, text, number):
    """The answer to points, None where the text asks nothing."""
    told = stretch_and_wishes(text)
    if told is None:
        return None
    start, end, wishes = told
    lines = []
    for labels, points in store.points(wishes, start, end, number=number):
        lines.append(" ".join([str(labels)] + [point_text(point) for point in points]))
    return lines_or_nothing(lines)


def folds_answer(store, text, number):
    """The answer to folds, None where the text asks nothing."""
    told = stretch_and_wishes(text)
    if told is None:
        return None
    start, end, wishes = told
    folds = store.folds(wishes, start, end, number=number)
    return lines_or_nothing([f"{labels} {fold_text(fold)}" for labels, fold in folds])


def windows_answer(store, text, number):
    """The answer to windows, None where the text asks nothing."""
    told = frame_and_wishes(text)
    if told is None:
        return None
    frame, wishes = told
    lines = []
    for labels, folds in store.windows(wishes, frame.start, step=frame.step, many=frame.many, number=number):
        texts = "; ".join([fold_text(fold) for fold in folds])
        lines.append(f"{labels} {texts}")
    return lines_or_nothing(lines)


def latest_answer(store, text, number):
    """The answer to latest, None where the text asks nothing."""
    words = split_words(text, 2)
    labels = None if words is None else labels_of(words[0])
    time = None if words is None else whole_of(words[1])
    if labels is None or time is None:
        return None
    return point_text(store.latest(labels, time, number=number))


def ask_answer(store, text, number):
    """The answer to an ask, None where the text asks nothing."""
    told = frame_and_rest(text)
    ask = None if told is None else ask_of(told[1])
    if ask is None:
        return None
    lines = []
    for labels, row in answered(store, ask, told[0], number=number):
        lines.append(" ".join([str(labels)] + [NOTHING if part is None else ratio_text(part) for part in row]))
    return lines_or_nothing(lines)


def plan_answer(store, text):
    """The answer to plan, None where the text asks nothing."""
    words = split_words(text, 2)
    stretch = None if words is None else stretch_of(words[0])
    labels = None if words is None else labels_of(words[1])
    if stretch is None or labels is None:
        return None
    pieces = store.plan(labels, stretch[0], stretch[1])
    return lines_or_nothing([f"{word} {stretch_text(start, end)}" for word, start, end in pieces])


def change_text(change):
    """The text of what a watch tells of a window."""
    labels, start, old, new = change
    return f"{labels} {start} {fold_text(old)}; {fold_text(new)}"


# The questions that may be asked at a number.
QUESTIONS = {
    "found": found_answer, "points": points_answer, "folds": folds_answer, "windows": windows_answer,
    "latest": latest_answer, "ask": ask_answer,
}


class Desk:
    """A store, and perhaps a watch of it, behind rows of text."""

    def __init__(self, *, widths=WIDTHS, keeps=KEEPS):
        self.store = Store(widths=widths, keeps=keeps)
        self.watcher = None
        self.heard = 0
        self.done = 0
        self.ready = True

    def say(self, row):
        """The answer to a row."""
        self.heard += 1
        self.ready = False
        try:
            answer = self.answer_to(row)
            if answer is None:
                raise NoText(row)
        finally:
            self.ready = True
        self.done += 1
        return answer

    def say_all(self, rows, *, stop=True):
        """The answers to rows, one by one; that to a refused one is its name behind a !."""
        answers = []
        for row in list(rows):
            answer, refused = self.say_or_name(row)
            answers.append(answer)
            if refused and stop:
                break
        return answers

    def say_or_name(self, row):
        """The answer to a row and False, or the name of its refusal behind a ! and True."""
        try:
            return self.say(row), False
        except NoText:
            return "!NoText", True
        except NoNumber:
            return "!NoNumber", True
        except NoSeries:
            return "!NoSeries", True
        except TooLate:
            return "!TooLate", True
        except Gone:
            return "!Gone", True

    def answer_to(self, row):
        """The answer to a row, None where it is no deed and no question."""
        word, blank, rest = row.partition(" ")
        if word in DEEDS:
            deed = deed_of(row)
            return None if deed is None else deed_answer(self.store, deed)
        if word == "at":
            return self.answer_at(rest)
        if word in QUESTIONS:
            action = QUESTIONS[word]
            return action(self.store, rest, None)
        if word == "plan":
            return plan_answer(self.store, rest)
        return self.watch_answer(rest) if word == "watch" else self.short_answer(row)

    def answer_at(self, text):
        """The answer to a question at a number, None where the text is none."""
        words = split_words(text, 3)
        if words is None or words[1] not in QUESTIONS:
            return None
        number = whole_of(words[0])
        action = QUESTIONS[words[1]]
        return None if number is None else action(self.store, words[2], number)

    def watch_answer(self, text):
        """Make the desk's watch, None where the text tells none."""
        told = frame_and_wishes(text)
        if told is None:
            return None
        frame, wishes = told
        self.watcher = self.store.watch(wishes, frame.start, width=frame.step, many=frame.many)
        return "ok"

    def short_answer(self, row):
        """The answer to a question of one word, None where the row is none."""
        if row == "told" and self.watcher is not None:
            return lines_or_nothing([change_text(change) for change in self.watcher.told()])
        if row == "log":
            return lines_or_nothing(self.store.log.lines())
        return None
