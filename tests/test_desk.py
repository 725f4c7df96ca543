"""Point 32: a desk, which answers texts."""

import re
import unittest

from notchledger.desk import Desk
from notchledger.made import copies, unary
from notchledger.summed import summed
from notchledger.texts import writing_text
from notchledger.writings import made_writing
from plain import TimedCase, full, mixed, steps
from plain_ledger import PlainLedger, some_deed

GROWING = unary(3)
# No cuts read nothing; 1 is no number that is read.
GAPS = made_writing(2, 4, (None, 2, 0, 3))
NAME, NUMBER = "([a-z]{1,8})", "(0|[1-9][0-9]{0,2})"
# Point 32's texts, each with the ledger's deed or what is told of it.
FORMS = {
    f"begin {NAME}": "begin", f"write {NAME} {NUMBER}": "write", f"pay {NAME} {NAME} {NUMBER}": "pay",
    f"lend {NAME}": "lend", f"twin {NAME} {NUMBER}": "write_twin", f"lay {NAME}": "lay",
    f"cut {NAME} (stock|foil) {NUMBER}": "cut_alone", f"settle {NAME}": "settle", f"mend {NAME} ([0-8])": "mend",
    "back": "back", f"number {NAME}": "number", "names": "names", f"away {NAME}": "away",
}


class PlainDesk:
    """Point 32 over the plain ledger."""

    def __init__(self):
        self.ledger = None

    def keep(self, writing):
        self.ledger = PlainLedger(writing, set())

    def say(self, text):
        for form, deed in FORMS.items():
            found = re.fullmatch(form, text)
            if found is not None:
                return "no ledger" if self.ledger is None else self.answer(deed, list(found.groups()))
        return "no word"

    def answer(self, deed, words):
        if deed == "names":
            return " ".join(sorted(self.ledger.strips)) or "none"
        if deed in ("number", "away"):
            if words[0] not in self.ledger.strips:
                return "Unknown"
            away = str(len(self.ledger.strips[words[0]]["away"]))
            return away if deed == "away" else self.figures(self.ledger.reads(words[0]))
        given = [int(word) if word.isdigit() else word for word in words]
        if deed == "cut_alone":
            given[2] = [given[2]]
        word, told = self.ledger.ask(deed, *given)
        return told if word == "refused" else self.granted(deed, told)

    def figures(self, number):
        return "nothing" if number is None else str(number)

    def granted(self, deed, told):
        carried = {True: "carried", False: "written"}
        return {
            "begin": lambda: "done", "lend": lambda: "done", "cut_alone": lambda: "done",
            "write": lambda: carried[told], "write_twin": lambda: "written",
            "pay": lambda: carried[told[0]] + " " + carried[told[1]], "lay": lambda: self.figures(told),
            "settle": lambda: told[0] + " " + self.figures(told[1]), "mend": lambda: str(told),
            "back": lambda: " ".join(told),
        }[deed]()


class DeskCase(unittest.TestCase):
    def desk_of(self, writing, *texts):
        desk = Desk()
        self.says(desk, "ledger\n" + writing_text(writing), "kept")
        for text in texts:
            self.assertNotRegex(desk.say(text), "^(no |[A-Z])", text)
        return desk

    def says(self, desk, text, answer):
        told = desk.say(text)
        self.assertIs(type(told), str)
        self.assertEqual(told, answer, text)


class EachText(DeskCase):
    def test_begin(self):
        desk = self.desk_of(GROWING)
        self.says(desk, "begin ann", "done")
        self.says(desk, "begin ann", "Taken")
        for letter in "abcdefghijklmnopqrs":
            self.says(desk, "begin " + letter, "done")
        self.says(desk, "begin t", "TooMany")
        self.says(desk, "begin s", "Taken")

    def test_write(self):
        desk = self.desk_of(GROWING, "begin ann")
        self.says(desk, "write ann 2", "written")
        self.says(desk, "write ann 2", "written")
        self.says(desk, "write ann 1", "carried")
        self.says(desk, "write bob 1", "Unknown")
        self.says(desk, "write bob 999", "Unknown")
        self.says(desk, "write ann 4", "NoNumber")
        self.says(desk, "write ann 999", "NoNumber")
        self.says(desk, "lend ann", "done")
        self.says(desk, "write ann 0", "Lent")
        self.says(desk, "cut ann stock 2", "done")
        self.says(desk, "write ann 0", "Unlike")
        self.says(self.desk_of(GAPS, "begin ann"), "write ann 1", "NoNumber")

    def test_pay(self):
        desk = self.desk_of(GROWING, "begin ann", "begin bob", "write ann 2")
        self.says(desk, "pay ann bob 1", "carried written")
        self.says(desk, "number ann", "1")
        self.says(desk, "number bob", "1")
        self.says(desk, "pay ann cid 1", "Unknown")
        self.says(desk, "pay cid ann 1", "Unknown")
        self.says(desk, "pay ann ann 1", "Same")
        self.says(desk, "pay ann bob 0", "NoNumber")
        self.says(desk, "pay ann bob 100", "NoNumber")
        self.says(desk, "pay ann bob 99", "Short")
        self.says(desk, "write ann 3", "written")
        self.says(desk, "pay ann bob 3", "Over")
        self.says(desk, "lend ann", "done")
        self.says(desk, "pay ann bob 1", "Lent")
        self.says(desk, "cut bob foil 2", "done")
        self.says(desk, "pay ann bob 1", "Unlike")
        desk = self.desk_of(GAPS, "begin ann", "begin bob")
        self.says(desk, "pay ann bob 1", "Nothing")
        shrinking = made_writing(3, 4, (3, 2, None, 1, None, None, None, 0))
        desk = self.desk_of(shrinking, "begin ann", "begin bob", "write bob 1")
        self.says(desk, "pay ann bob 2", "written carried")
        desk = self.desk_of(copies(2, 1), "begin ann", "begin bob", "write ann 1")
        self.says(desk, "pay ann bob 1", "carried written")
        self.says(desk, "pay bob ann 1", "carried written")

    def test_lend_twin_and_lay(self):
        desk = self.desk_of(GROWING, "begin ann")
        for text in ("lend bob", "twin bob 1", "lay bob"):
            self.says(desk, text, "Unknown")
        self.says(desk, "twin ann 1", "NotLent")
        self.says(desk, "lay ann", "NotLent")
        self.says(desk, "lend ann", "done")
        self.says(desk, "lend ann", "Lent")
        self.says(desk, "twin ann 2", "written")
        self.says(desk, "twin ann 1", "Spent")
        self.says(desk, "twin ann 4", "NoNumber")
        self.says(desk, "lay ann", "2")
        self.says(desk, "cut ann foil 2", "done")
        self.says(desk, "lend ann", "Unlike")
        desk = self.desk_of(made_writing(2, 3, (0, 1, 2, None)), "begin ann", "lend ann", "write ann 1", "twin ann 2")
        self.says(desk, "lay ann", "nothing")
        self.says(desk, "number ann", "nothing")

    def test_lay_of_unlike_halves(self):
        desk = self.desk_of(GROWING, "begin ann", "lend ann", "cut ann stock 0")
        self.says(desk, "lay ann", "Unlike")

    def test_cut(self):
        desk = self.desk_of(GROWING, "begin ann")
        self.says(desk, "cut ann stock 0", "done")
        self.says(desk, "cut ann stock 0", "NoSpot")
        self.says(desk, "cut ann foil 0", "done")
        self.says(desk, "cut ann foil 3", "NoSpot")
        self.says(desk, "cut ann foil 999", "NoSpot")
        self.says(desk, "cut bob foil 1", "Unknown")
        self.says(desk, "number ann", "1")

    def test_settle(self):
        desk = self.desk_of(GROWING, "begin ann", "write ann 1")
        self.says(desk, "settle ann", "same 1")
        self.says(desk, "cut ann stock 2", "done")
        self.says(desk, "settle ann", "stock 1")
        self.says(desk, "cut ann foil 2", "done")
        self.says(desk, "settle ann", "foil 1")
        self.says(desk, "cut ann foil 1", "done")
        self.says(desk, "cut ann stock 2", "done")
        self.says(desk, "settle ann", "both 1")
        self.says(desk, "away ann", "3")
        self.says(desk, "settle bob", "Unknown")
        self.says(desk, "lend ann", "done")
        self.says(desk, "cut ann stock 2", "done")
        self.says(desk, "settle ann", "Lent")
        desk = self.desk_of(GAPS, "begin ann")
        self.says(desk, "settle ann", "same nothing")
        self.says(desk, "cut ann stock 0", "done")
        self.says(desk, "settle ann", "Nothing")

    def test_mend(self):
        desk = self.desk_of(summed(3, 0), "begin ann", "write ann 1", "cut ann stock 1")
        self.says(desk, "mend ann 1", "Unlike")
        self.says(desk, "cut ann foil 1", "done")
        self.says(desk, "mend ann 0", "Nothing")
        self.says(desk, "mend ann 8", "Unsure")
        self.says(desk, "mend ann 1", "1")
        self.says(desk, "mend ann 1", "1")
        self.says(desk, "away ann", "1")
        self.says(desk, "mend bob 1", "Unknown")
        self.says(desk, "lend ann", "done")
        self.says(desk, "mend ann 1", "Lent")
        for tears in ("9", "10", "00", "01", "-1", "", "x"):
            self.says(desk, "mend ann " + tears, "no word")

    def test_back(self):
        desk = self.desk_of(GROWING, "begin bob", "begin ann")
        self.says(desk, "back", "NoDeed")
        self.says(desk, "write bob 1", "written")
        self.says(desk, "pay bob ann 1", "carried written")
        self.says(desk, "back", "bob ann")
        self.says(desk, "lend bob", "done")
        self.says(desk, "back", "Lent")
        self.says(desk, "cut bob foil 2", "done")
        self.says(desk, "back", "Unlike")
        desk = self.desk_of(GAPS, "begin ann", "write ann 2")
        self.says(desk, "back", "Nothing")
        self.says(desk, "write ann 3", "written")
        self.says(desk, "back", "ann")

    def test_number_names_and_away(self):
        desk = self.desk_of(GROWING)
        self.says(desk, "names", "none")
        for text in ("number ann", "away ann"):
            self.says(desk, text, "Unknown")
        for name in ("bob", "ann", "abcdefgh"):
            self.says(desk, "begin " + name, "done")
        self.says(desk, "names", "abcdefgh ann bob")
        self.says(desk, "number ann", "0")
        self.says(desk, "away ann", "0")
        self.says(desk, "write ann 3", "written")
        self.says(desk, "write ann 0", "carried")
        self.says(desk, "away ann", "1")
        self.says(desk, "away bob", "0")
        self.says(self.desk_of(GAPS, "begin ann"), "number ann", "nothing")

    def test_the_201st_deed(self):
        desk = self.desk_of(GROWING, "begin ann")
        for times in range(199):
            self.says(desk, "settle ann", "same 0")
        for text in ("settle ann", "begin bob", "begin ann", "write eve 1", "pay eve eve 0", "lend eve", "twin eve 1",
                     "lay eve", "cut eve foil 9", "settle eve", "mend eve 0", "back"):
            self.says(desk, text, "TooMany")
        self.says(desk, "names", "ann")
        self.says(desk, "number ann", "0")
        self.says(desk, "number eve", "Unknown")
        self.says(desk, "away ann", "0")
        self.says(desk, "begin Ann", "no word")


class Ledgers(DeskCase):
    def test_no_ledger_at_first(self):
        for text in ("begin ann", "write ann 1", "pay ann ann 0", "lend a", "twin a 1", "lay a", "cut a foil 9",
                     "settle a", "mend a 8", "back", "number a", "names", "away a"):
            self.says(Desk(), text, "no ledger")

    def test_no_word_ahead_of_no_ledger(self):
        for text in ("", "ledger", "begin", "begin Ann", "write ann", "mend a 9", "cut a both 1", "ledger ",
                     "no ledger"):
            self.says(Desk(), text, "no word")

    def test_a_new_one_in_the_place_of_the_elder_one(self):
        desk = self.desk_of(GROWING, "begin ann", "write ann 2")
        self.says(desk, "ledger\n" + writing_text(GAPS), "kept")
        self.says(desk, "names", "none")
        self.says(desk, "back", "NoDeed")
        self.says(desk, "begin ann", "done")
        self.says(desk, "number ann", "nothing")
        self.says(desk, "ledger\n" + writing_text(GAPS), "kept")
        self.says(desk, "names", "none")

    def test_no_text_and_the_elder_one_stays(self):
        text = writing_text(GROWING)
        wrong = ("", "\n", text[:-1], text + "\n", " " + text, "x", "names", "strip 1 2\n0 2\n", "back",
                 "ledger\n" + text)
        for rest in wrong:
            desk = Desk()
            self.says(desk, "ledger\n" + rest, "NoText")
            self.says(desk, "names", "no ledger")
        desk = self.desk_of(GROWING, "begin ann", "write ann 2")
        for rest in wrong:
            self.says(desk, "ledger\n" + rest, "NoText")
            self.says(desk, "number ann", "2")
            self.says(desk, "names", "ann")

    def test_what_is_no_such_text(self):
        text = writing_text(GROWING)
        for wrong in ("ledger" + text, "ledger " + text, "Ledger\n" + text, " ledger\n" + text, "ledger \n" + text,
                      "ledger\r\n" + text, "\nledger\n" + text, text, "ledgers\n" + text, "ledger"):
            self.says(Desk(), wrong, "no word")

    def test_two_desks_side_by_side(self):
        one, other = self.desk_of(GROWING, "begin ann"), self.desk_of(GROWING)
        self.says(other, "names", "none")
        self.says(other, "begin bob", "done")
        self.says(one, "names", "ann")
        self.says(one, "ledger\n" + writing_text(GAPS), "kept")
        self.says(other, "number bob", "0")
        self.says(Desk(), "names", "no ledger")


class NoWord(DeskCase):
    def test_names(self):
        desk = self.desk_of(GROWING)
        for name in ("a", "z", "zz", "abcdefgh", "stock", "back", "begin", "none"):
            self.says(desk, "begin " + name, "done")
        for name in ("", "A", "Ann", "anN", "abcdefghi", "a1", "1", "a_", "a-b", "\u00e4", "\u00df", "a\n", "\na",
                     "a\t", " a", "a ", "a b", "\uff41", "\u02b0"):
            for text in ("begin {}", "number {}", "lend {}", "lay {}", "settle {}", "away {}", "write {} 1",
                         "twin {} 1", "pay {} a 1", "pay a {} 1", "cut {} foil 1", "mend {} 1"):
                self.says(desk, text.format(name), "no word")

    def test_numbers(self):
        desk = self.desk_of(GROWING, "begin a", "begin b")
        for number in ("0", "1", "9", "10", "99", "100", "999"):
            for text in ("write c {}", "twin c {}", "pay a c {}", "cut c foil {}"):
                self.says(desk, text.format(number), "Unknown")
        for number in ("", "00", "01", "007", "1000", "-1", "+1", "1.0", "1_0", "x", "one", "\u0661", "\uff11",
                       "\u00b2", " 1", "1 ", "1\n", "\n1", "1 1", "-0", "True", "None", "1e2", "9" * 5000):
            for text in ("write a {}", "twin a {}", "pay a b {}", "cut a foil {}", "mend a {}"):
                self.says(desk, text.format(number), "no word")

    def test_halves(self):
        desk = self.desk_of(GROWING, "begin a")
        for half in ("", "Stock", "FOIL", "both", "half", "stockfoil", "foil ", " foil", "a", "0"):
            self.says(desk, f"cut a {half} 1", "no word")

    def test_blanks_line_ends_and_words_too_many_or_few(self):
        desk = self.desk_of(GROWING, "begin a", "begin b", "lend a")
        for text in ("begin c", "write a 0", "pay a b 1", "lend b", "twin a 1", "lay a", "cut a foil 1", "settle a",
                     "mend a 1", "back", "number a", "names", "away a"):
            first = text.split(" ")[0]
            for wrong in (text + " ", " " + text, text + "\n", "\n" + text, text + "\r", text + "\t", text.upper(),
                          text.title(), text + " a", text + " 1", first + "  " + text[len(first) + 1:], "x" + text,
                          first + "\n" + text[len(first) + 1:], text.replace(" ", "\t") + "\t", text + "\n" + text):
                self.says(desk, wrong, "no word")
            if first != text:
                self.says(desk, first, "no word")
                self.says(desk, text.replace(" ", "\t"), "no word")
                self.says(desk, text.replace(" ", "\u00a0"), "no word")
                self.says(desk, text.rsplit(" ", 1)[0] + " ", "no word")
        self.says(desk, "names", "a b")

    def test_any_text(self):
        for desk in (Desk(), self.desk_of(GROWING)):
            for text in ("", " ", "  ", "\n", "\n\n", "x", "x" * 4000, " " * 4000, "Unknown", "kept", "write_twin a 1",
                         "cut_alone a foil 1", "put_away a", "halves a", "deeds", "at 0", "twin a", "begin",
                         "say names", "__init__", "\x00", "\ud800", "help", "0", "\u2028names"):
                self.says(desk, text, "no word")


class LongTalk(DeskCase):
    """Long rows of texts against the plain desk."""

    def texts(self, writing, worths):
        names = ["ann", "bob", "cid"]
        while True:
            deed, *given = some_deed(writing, names, worths)
            word = {"write_twin": "twin", "cut_alone": "cut"}.get(deed, deed)
            if deed == "cut_alone":
                given[2] = given[2][0] if given[2] else 0
            if deed == "mend" and next(worths) % 8 == 0:
                given[1] = 9
            yield " ".join([word, *map(str, given)])
            yield ("names", "number ann", "away bob", "number cid", "away dan", "away")[next(worths) % 6]

    def test_as_the_plain_desk(self):
        for seed, writing in enumerate((GROWING, GAPS, copies(3, 2), summed(4, 1), mixed(3, 4, 6), full(4, 3, 7))):
            desk, plain = Desk(), PlainDesk()
            texts = self.texts(writing, steps(seed))
            for times in range(700):
                text = next(texts)
                self.says(desk, text, plain.say(text))
                if times in (10, 640):
                    self.says(desk, "ledger\n" + writing_text(writing), "kept")
                    plain.keep(writing)


class EightSpots(TimedCase):
    def test_in_time(self):
        desk = Desk()
        for writing in (full(8, 100, 1), mixed(8, 100, 2)):
            self.assertEqual(self.timed(desk.say, "ledger\n" + writing_text(writing)), "kept")
            for text in ("begin ann", "begin bob", "write ann 5", "write bob 7", "pay bob ann 3", "back"):
                self.timed(desk.say, text)


if __name__ == "__main__":
    unittest.main()
