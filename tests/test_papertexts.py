"""Points [43] and [44]."""

import itertools
import random
import unittest

import plain
from oftenlots.apart import parting_paper
from oftenlots.closed import closed_paper
from oftenlots.errors import NoText, OftenError
from oftenlots.levels import whole_paper
from oftenlots.papertexts import read_closed, read_parting, read_whole, show_closed, show_parting, show_whole

FORTY = plain.FORTY
WHOLE = ([(0, [-1, -1]), (1, [-1, 0])], [(2, [1, 1])])
WHOLE_TEXT = "whole | 0: -1 -1; 1: -1 0 | 2: 1 1"
CLOSED = [(0, 2, [(0, "leads", 1), (1, "rare", [])]), (1, 1, [(1, "rare", [])])]
CLOSED_TEXT = "closed | 0 2: 0 leads 1, 1 rare -; 1 1: 1 rare -"
PARTING = ([(2, 1, [1, 1], [0])], [("in", 0), ("by", 0)])
PARTING_TEXT = "parting | 2 1: 1 1 / 0 | in 0, by 0"
SIGNS = [chr(code) for code in range(ord(" "), ord("~") + 1)]
READERS = (read_whole, read_closed, read_parting)

# Whatever is no number, and so may stand in no place of one.
NO_NUMBERS = ["", " ", "-", "--", "-0", "00", "01", "007", "-01", "+1", "+0", "--1", "1-", "1.", "1.0", ".5", "1e3",
              "1_0", "0x1", "a", "none", "leads", "one", "1 ", " 1", "- 1", "~", "!", "(1)", "1/2", "1" + "0" * 40,
              "-1" + "0" * 40, "9" * 300]


def told(read, text):
    try:
        return read(text)
    except NoText:
        return None


class Showing(unittest.TestCase):
    def test_the_documents_own(self):
        self.assertEqual(show_whole(WHOLE), WHOLE_TEXT)
        self.assertEqual(show_closed(CLOSED), CLOSED_TEXT)
        self.assertEqual(show_parting(PARTING), PARTING_TEXT)

    def test_no_rows(self):
        self.assertEqual(show_whole(([], [])), "whole | none | none")
        self.assertEqual(show_whole(([(0, [])], [])), "whole | 0: - | none")
        self.assertEqual(show_whole(([], [(0, [])])), "whole | none | 0: -")
        self.assertEqual(show_closed([]), "closed | none")
        self.assertEqual(show_parting(([], [])), "parting | none | none")
        self.assertEqual(show_parting(([], [("in", 3)])), "parting | none | in 3")
        self.assertEqual(show_parting(([(0, 0, [], [])], [])), "parting | 0 0: - / - | none")

    def test_no_numbers_and_no_reasons(self):
        self.assertEqual(show_closed([(7, 3, [])]), "closed | 7 3: none")
        self.assertEqual(show_closed([(7, 3, []), (8, 1, [(0, "rare", [2, 5])])]),
                         "closed | 7 3: none; 8 1: 0 rare 2 5")
        self.assertEqual(show_parting(([(4, 1, [2, 2], []), (5, 0, [], [3])], [])),
                         "parting | 4 1: 2 2 / -; 5 0: - / 3 | none")

    def test_great_numbers_and_numbers_below_nought(self):
        nines = "9" * 40
        self.assertEqual(show_whole(([(FORTY, [-FORTY, 0])], [(-1, [-1])])), f"whole | {nines}: -{nines} 0 | -1: -1")
        self.assertEqual(show_closed([(-FORTY, -1, [(FORTY, "leads", -2), (-3, "rare", [-4])])]),
                         f"closed | -{nines} -1: {nines} leads -2, -3 rare -4")
        self.assertEqual(show_parting(([(-1, -2, [-3], [-4, FORTY])], [("by", -5), ("in", -FORTY)])),
                         f"parting | -1 -2: -3 / -4 {nines} | by -5, in -{nines}")


class Reading(unittest.TestCase):
    def test_the_documents_own(self):
        self.assertEqual(read_whole(WHOLE_TEXT), WHOLE)
        self.assertEqual(read_closed(CLOSED_TEXT), CLOSED)
        self.assertEqual(read_parting(PARTING_TEXT), PARTING)

    def test_no_rows(self):
        self.assertEqual(read_whole("whole | none | none"), ([], []))
        self.assertEqual(read_closed("closed | none"), [])
        self.assertEqual(read_parting("parting | none | none"), ([], []))

    def test_kinds(self):
        whole = read_whole(WHOLE_TEXT)
        self.assertEqual([type(whole), type(whole[0]), type(whole[0][0]), type(whole[0][0][1])],
                         [tuple, list, tuple, list])
        closed = read_closed(CLOSED_TEXT)
        self.assertEqual([type(closed), type(closed[0]), type(closed[0][2]), type(closed[0][2][0])],
                         [list, tuple, list, tuple])
        self.assertEqual([type(part) for part in closed[0][2][1]], [int, str, list])
        parting = read_parting(PARTING_TEXT)
        self.assertEqual([type(parting), type(parting[0]), type(parting[1]), type(parting[1][0])],
                         [tuple, list, list, tuple])
        self.assertEqual([type(part) for part in parting[0][0]], [int, int, list, list])
        for paper in (whole, closed, parting):
            self.assertLessEqual({type(part) for part in plain.all_in(paper)}, {int, str, list, tuple})

    def assert_read_back(self, show, read, paper):
        text = show(paper)
        with self.subTest(text=text[:200]):
            self.assertEqual(read(text), paper)

    def test_told_papers(self):
        for book in plain.small_books(160):
            for least in (1, 2, len(book[1]) + 1):
                self.assert_read_back(show_whole, read_whole, whole_paper(book, least))
                self.assert_read_back(show_closed, read_closed, closed_paper(book, least))
            for other in ((book[0], []), (book[0], [0, 1]), (book[0], [2 ** book[0] - 1])):
                self.assert_read_back(show_parting, read_parting, parting_paper(book, other))
                self.assert_read_back(show_parting, read_parting, parting_paper(other, book))

    def test_papers_of_any_numbers(self):
        chance = random.Random(161)

        def number():
            return chance.choice([0, 1, -1, 9, 10, -10, chance.randint(-200, 200), FORTY, -FORTY, 10 ** 39, 10 ** 20])

        def numbers():
            return [number() for place in range(chance.randint(0, 4))]

        def reason():
            return (number(), "leads", number()) if chance.random() < 0.5 else (number(), "rare", numbers())

        for turn in range(300):
            length = chance.randint(0, 4)
            marked = [[(number(), numbers()) for row in range(chance.randint(0, 3))] for side in (0, 1)]
            self.assert_read_back(show_whole, read_whole, tuple(marked))
            closed = [(number(), number(), [reason() for place in range(chance.randint(0, 3))])
                      for row in range(length)]
            self.assert_read_back(show_closed, read_closed, closed)
            rows = [(number(), number(), numbers(), numbers()) for row in range(length)]
            leads = [(chance.choice(["by", "in"]), number()) for lead in range(chance.randint(0, 4))]
            self.assert_read_back(show_parting, read_parting, (rows, leads))

    def test_texts_of_twenty_thousand_signs(self):
        with plain.within_seconds(20):
            self.assert_read_back(show_whole, read_whole, ([(0, [0] * 4900)], [(place, []) for place in range(1200)]))
            self.assert_read_back(show_closed, read_closed, [(1, 1, [(1, "leads", 1)] * 1600), (2, 2, [])])
            self.assert_read_back(show_closed, read_closed, [(1, 1, [(1, "rare", [FORTY] * 450)])])
            self.assert_read_back(show_parting, read_parting, ([(1, 1, [1] * 4000, [0] * 4000)], [("by", 0)] * 600))
            self.assert_read_back(show_parting, read_parting, ([(0, 0, [], [])] * 1500, []))


class Refusals(unittest.TestCase):
    def assert_refused(self, read, text):
        with self.subTest(read=read.__name__, text=text[:200]):
            with self.assertRaises(NoText):
                read(text)

    def test_empty_and_other_texts(self):
        for read in READERS:
            for text in ("", " ", "none", "-", "0", "|", " | ", " |  | ", "whole", "closed", "parting", "whole |",
                         "closed |", "closed | ", "parting |", "whole | ", "whole | none", "parting | none",
                         "closed | none | none", "whole | none | none | none", "parting | none | none | none",
                         " | none | none", "none | none", "none | none | none", "Whole | none | none",
                         "Closed | none", "whole| none | none", "whole |none | none", "whole | none |none",
                         "whole | none| none", "whole  | none | none", " whole | none | none", "whole | none | none ",
                         "whole | none | none |", "closed | none ", " closed | none", "closed  | none",
                         "parting | none | none ", "partings | none | none", "whole | | none", "whole |  | none",
                         "whole | none | ", "parting | none | ", "parting |  | none", "whole|none|none",
                         "closed|none"):
                self.assert_refused(read, text)

    def test_papers_of_another_kind(self):
        for read, text in itertools.product(READERS, (WHOLE_TEXT, CLOSED_TEXT, PARTING_TEXT)):
            own = {read_whole: WHOLE_TEXT, read_closed: CLOSED_TEXT, read_parting: PARTING_TEXT}[read]
            if text != own:
                self.assert_refused(read, text)
        self.assert_refused(read_whole, "parting | none | none")
        self.assert_refused(read_parting, "whole | none | none")

    def test_numbers_written_otherwise(self):
        for word in NO_NUMBERS:
            self.assert_refused(read_whole, f"whole | {word}: 1 | none")
            self.assert_refused(read_whole, f"whole | none | 1: 2 {word}")
            self.assert_refused(read_whole, f"whole | none | 1: {word} 2")
            self.assert_refused(read_closed, f"closed | {word} 2: none")
            self.assert_refused(read_closed, f"closed | 0 {word}: none")
            self.assert_refused(read_closed, f"closed | 0 2: {word} leads 1")
            self.assert_refused(read_closed, f"closed | 0 2: 0 leads {word}")
            self.assert_refused(read_closed, f"closed | 0 2: {word} rare 1")
            self.assert_refused(read_closed, f"closed | 0 2: 0 rare 1 {word}")
            self.assert_refused(read_parting, f"parting | {word} 1: 1 / 0 | none")
            self.assert_refused(read_parting, f"parting | 1 {word}: 1 / 0 | none")
            self.assert_refused(read_parting, f"parting | 1 1: 1 {word} / 0 | none")
            self.assert_refused(read_parting, f"parting | 1 1: 1 / {word} 0 | none")
            self.assert_refused(read_parting, f"parting | none | by {word}")
            self.assert_refused(read_parting, f"parting | none | in 0, in {word}")
            if word != "-":
                self.assert_refused(read_whole, f"whole | 1: {word} | none")
                self.assert_refused(read_closed, f"closed | 0 2: 0 rare {word}")
                self.assert_refused(read_parting, f"parting | 1 1: {word} / 0 | none")
                self.assert_refused(read_parting, f"parting | 1 1: 0 / {word} | none")

    def test_a_dash_beside_numbers(self):
        for numbers in ("- 1", "1 -", "- -", "1 - 2", "-  -"):
            self.assert_refused(read_whole, f"whole | 0: {numbers} | none")
            self.assert_refused(read_closed, f"closed | 0 2: 0 rare {numbers}")
            self.assert_refused(read_parting, f"parting | 0 2: {numbers} / - | none")
            self.assert_refused(read_parting, f"parting | 0 2: - / {numbers} | none")

    def test_none_beside_rows(self):
        for rows in ("none; 0: 1", "0: 1; none", "none; none", "0: none", "none: 1"):
            self.assert_refused(read_whole, f"whole | {rows} | none")
            self.assert_refused(read_whole, f"whole | none | {rows}")
        for rows in ("none; 0 1: none", "0 1: none; none", "none; none", "0 1: none, none", "0 1: none, 0 leads 1",
                     "0 1: 0 leads 1, none", "0 1: -", "none: none", "0 1: 0 rare none"):
            self.assert_refused(read_closed, f"closed | {rows}")
        for rows in ("none; 0 1: - / -", "0 1: - / -; none", "none; none", "0 1: none / -", "0 1: none", "-"):
            self.assert_refused(read_parting, f"parting | {rows} | none")
        for leads in ("none, in 0", "in 0, none", "none, none", "-", "none; none"):
            self.assert_refused(read_parting, f"parting | none | {leads}")

    def test_other_words(self):
        for word in ("", "Leads", "lead", "leads:", "rares", "RARE", "by", "in", "none", "-", "0"):
            self.assert_refused(read_closed, f"closed | 0 2: 0 {word} 1")
        for word in ("", "By", "on", "int", "leads", "rare", "none", "-", "0", "by by", "by in"):
            self.assert_refused(read_parting, f"parting | none | {word} 1")
        for reason in ("0 leads", "leads 1", "0 leads 1 2", "0 leads -", "0 rare", "rare 1", "0", "0 1",
                       "0 leads leads 1", "0 rare 1 leads 2", "0 leads 1 rare 2", "0 rare rare 1", "0  leads 1",
                       "0 leads  1", "0 rare  1", "0 rare 1 rare 2"):
            self.assert_refused(read_closed, f"closed | 0 2: {reason}")

    def test_pieces_left_out_or_too_many(self):
        for row in ("0", "0:", "0: ", ": 1", "0 1", "0: 1: 2", "0 1: 2", "0: 1;", "; 0: 1", "0: 1; ", "0: 1;; 1: 2",
                    "0: 1 ; 1: 2", "0: 1;1: 2", "0 : 1", "0:1", "0:  1", " 0: 1", "0: 1 ", "0: 1, 2", "0: 1  2"):
            self.assert_refused(read_whole, f"whole | {row} | none")
            self.assert_refused(read_whole, f"whole | none | {row}")
        for row in ("0", "0 2", "0: none", "0 2 3: none", "0 2:", "0 2: ", "0 2: none: none", "0 2 : none", "0 2:none",
                    "0  2: none", "0 2:  none", "0 2: none;", "0 2: none; ", "0 2: 0 leads 1,", "0 2: 0 leads 1, ",
                    "0 2: , 0 leads 1", "0 2: 0 leads 1,1 leads 2", "0 2: 0 leads 1 , 1 leads 2",
                    "0 2: 0 leads 1; 1 leads 2", "0 2: 0 leads 1,, 1 leads 2", " 0 2: none", "0 2: none "):
            self.assert_refused(read_closed, f"closed | {row}")
        for row in ("0 2: 1", "0 2: 1 /", "0 2: 1 / ", "0 2: / 1", "0 2:  / 1", "0 2: 1 / 2 / 3", "0 2: 1/2",
                    "0 2: 1 /2", "0 2: 1/ 2", "0 2 3: 1 / 2", "0: 1 / 2", "2: 1 / 2", "0 2: 1 / 2;", "0 2: 1 / 2; ",
                    "0 2 1 / 2", "0 2: 1  / 2", "0 2: 1 /  2", "0 2:1 / 2", "0  2: 1 / 2", "0 2: 1 / 2, 0 2: 1 / 2",
                    "1 / 2"):
            self.assert_refused(read_parting, f"parting | {row} | none")
        for lead in ("by", "by ", "0", "by 0 0", "by 0 1", "in 0 by 0", "by 0,in 0", "by 0 , in 0", "by 0,", "by 0, ",
                     ", by 0", "by 0; in 0", "by  0", " by 0", "by 0 ", "by0", "by: 0", "by 0,, in 0"):
            self.assert_refused(read_parting, f"parting | none | {lead}")

    def test_forty_figures_and_one_more(self):
        nines = "9" * 40
        self.assertEqual(read_whole(f"whole | {nines}: -{nines} | none"), ([(FORTY, [-FORTY])], []))
        self.assert_refused(read_whole, f"whole | {nines}9: 1 | none")
        self.assert_refused(read_whole, f"whole | 1: -{nines}9 | none")
        with plain.within_seconds(10):
            self.assert_refused(read_whole, f"whole | {'9' * 19000}: 1 | none")
            self.assert_refused(read_closed, f"closed | 0 -{'9' * 19000}: none")
            self.assert_refused(read_parting, f"parting | none | by {'9' * 19000}")

    def test_long_texts(self):
        with plain.within_seconds(20):
            for read in READERS:
                for sign in SIGNS:
                    self.assert_refused(read, sign * 20000)
                for piece in (" | ", "; ", ", ", ": ", " / ", "whole | ", "0: 1; ", "none", "0 leads 1, ", "by 0, "):
                    self.assert_refused(read, piece * (20000 // len(piece)))
            self.assert_refused(read_whole, "whole | " + "0: 1; " * 3000 + "| none")
            self.assert_refused(read_whole, "whole | 0:" + " 1" * 9000 + "  | none")

    def test_refusals_are_often_errors(self):
        for read in READERS:
            with self.assertRaises(OftenError):
                read("")

    def test_one_sign_otherwise(self):
        # Whatever is read of a changed text is just what is written as that text.
        shows = {read_whole: show_whole, read_closed: show_closed, read_parting: show_parting}
        for read, text in zip(READERS, (WHOLE_TEXT, CLOSED_TEXT, PARTING_TEXT)):
            taken = 0
            for place in range(len(text)):
                others = [text[:place] + sign + text[place + 1:] for sign in SIGNS]
                others += [text[:place] + sign + text[place:] for sign in SIGNS] + [text[:place] + text[place + 1:]]
                for other in others:
                    paper = told(read, other)
                    if paper is not None:
                        taken += 1
                        self.assertEqual(shows[read](paper), other)
            self.assertGreater(taken, 100)

    def test_just_what_is_written_is_read(self):
        # All texts of some pieces, held against all papers that could be written so.
        pieces = ["0", "-", " ", "; ", ": ", "none", "1"]
        numbers = {"0": 0, "1": 1, "10": 10, "11": 11, "-1": -1, "-10": -10, "-11": -11, "100": 100, "101": 101,
                   "110": 110, "111": 111}
        for length in range(6):
            for chosen in itertools.product(pieces, repeat=length):
                text = "".join(chosen)
                asked = self.marked(text, numbers)
                self.assertEqual(told(read_whole, f"whole | {text} | none"), None if asked is None else (asked, []))

    def marked(self, text, numbers):
        if text == "none":
            return []
        rows = []
        for part in text.split("; "):
            lot, colon, rest = part.partition(": ")
            marks = [] if rest == "-" else [numbers.get(word) for word in rest.split(" ")]
            if not colon or lot not in numbers or None in marks:
                return None
            rows.append((numbers[lot], marks))
        return rows


if __name__ == "__main__":
    unittest.main()
