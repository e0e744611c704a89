import random
import unittest

from strayjoins.boards import Board
from strayjoins.errors import InvalidText
from strayjoins.frames import Frame
from strayjoins.legs import Driver, Listener
from strayjoins.reader import read_board, read_frame, read_session, read_word
from strayjoins.tables import Table
from strayjoins.texts import board_text, frame_text, session_text, word_text
from strayjoins.words import Word
from tests.brute import make_table, plain_answers, plain_boards, samples
from tests.grammar import board_fault, changed, frame_fault, levels, line_fault, session_fault
from tests.values import NAMES, no_strings

F = Frame(Driver("a"), Driver("b"), Listener("c"), Driver("rest"), top=2, ground=True, power=True)
WORDS = [
    "", "a", "b", "c", "g", "zz", "0", "1", "2", "3", "00", "01", "10", "-1", "+1", "1.", "frame", "driver", "listener", "word", "reads", "block",
    "rest", "ground", "power", "nothing", "a=0", "b=1", "a=2", "a=3", "rest=0", "a=", "=0", "=", "a==0", "a=00", "a=-1", "g=0", "h=1", "A", "abcdefghi",
]


class Reading(unittest.TestCase):
    def fault(self, read, *args):
        with self.assertRaises(InvalidText) as caught:
            read(*args)
        return (caught.exception.line, caught.exception.word)

    def look_at(self, expected, read, *args):
        """Whether a text is read; if not, with the fault that is expected."""
        if expected is None:
            read(*args)
        else:
            self.assertEqual(self.fault(read, *args), expected, args)
        return expected is None


class WrittenAndRead(Reading):
    def test_all_that_is_written(self):
        random_one = random.Random(251)
        for frame, rows, blocks in samples(252, 150):
            self.assertEqual(read_frame(frame_text(frame)), frame)
            table, answers = make_table(frame, rows), plain_answers(frame, blocks, rows)
            for word in table.words:
                self.assertEqual(read_word(frame, word_text(word)), word)
            board = Board.of(frame, random_one.choice(plain_boards(frame)))
            self.assertEqual(read_board(frame, board_text(board)), board)
            found = read_session(session_text(table, answers))
            self.assertIs(type(found), tuple)
            self.assertEqual(found, (table, answers))
            self.assertEqual((type(found[0]), type(found[1])), (Table, list))

    def test_by_name(self):
        self.assertEqual(read_frame(text=frame_text(F)), F)
        self.assertEqual(read_word(text="a=0", frame=F), Word(F, a=0))
        self.assertEqual(read_board(text="block a b", frame=F), Board(F, ["a", "b"]))
        self.assertEqual(read_session(text="frame 1\nreads"), (Table(Frame()), [{}]))

    def test_great_ones(self):
        frame = Frame(*[Driver(name) for name in NAMES], top=3)
        words = [Word.of(frame, {NAMES[at % 40]: at % 4}) for at in range(59)]
        table = Table.of(frame, words)
        answers = table.answers_of(Board(frame, NAMES))
        self.assertEqual(read_session(session_text(table, answers)), (table, answers))


class NoStrings(Reading):
    def test_any_values(self):
        for value in no_strings():
            for read in (read_frame, read_session, lambda text: read_word(F, text), lambda text: read_board(F, text)):
                self.assertEqual(self.fault(read, value), (0, 0))


class Frames(Reading):
    def test_first_lines(self):
        for line, word in (
            ("", 0), ("frames 1", 0), (" frame 1", 0), ("frame", 1), ("frame ", 1), ("frame 0", 1), ("frame 4", 1), ("frame 01", 1), ("frame 1.", 1),
            ("frame 10", 1), ("frame +1", 1), ("frame -1", 1), ("frame one", 1), ("frame  1", 1), ("frame 1 ", 2), ("frame 1 x", 2), ("frame 1 power ground", 3),
            ("frame 1 power power", 3), ("frame 1 ground ground", 3), ("frame 1 ground power ", 4), ("frame 1 ground power power", 4), ("frame 1 power ", 3),
            ("Frame 1", 0), ("frame ground", 1), ("frame 1 ground power x", 4), ("driver a", 0), ("frame 1 1", 2),
        ):
            self.assertEqual(self.fault(read_frame, line), (0, word), line)
            self.assertEqual(self.fault(read_frame, line + "\ndriver a\n"), (0, word))
        for line, frame in (("frame 3", Frame(top=3)), ("frame 1 ground", Frame(ground=True)), ("frame 2 power", Frame(top=2, power=True)),
                            ("frame 1 ground power", Frame(ground=True, power=True))):
            self.assertEqual(read_frame(line), frame)

    def test_leg_lines(self):
        for line, word in (
            ("", 0), ("driver", 1), ("driver ", 1), ("driver A", 1), ("driver ground", 1), ("driver power", 1), ("listener nothing", 1), ("driver a1", 1),
            ("driver abcdefghi", 1), ("driver x", 1), ("listener x", 1), ("driver b b", 2), ("driver b ", 2), ("driver  b", 1), (" driver b", 0), ("leg b", 0),
            ("listener b driver", 2), ("reads", 0), ("frame 1", 0), ("Driver b", 0), ("driver=b", 0),
        ):
            for ahead in ("frame 1\ndriver x\n", "frame 1\nlistener x\ndriver rest\n"):
                lines = ahead.count("\n")
                self.assertEqual(self.fault(read_frame, ahead + line), (lines, word), line)
                self.assertEqual(self.fault(read_frame, ahead + line + "\ndriver"), (lines, word), line)
        self.assertEqual(read_frame("frame 1\nlistener b\ndriver a"), Frame(Driver("a"), Listener("b")))
        self.assertEqual(read_frame("frame 1\ndriver driver\nlistener frame\ndriver word"), Frame(Driver("driver"), Listener("frame"), Driver("word")))

    def test_forty_one_legs(self):
        text = "frame 1\n" + "\n".join(f"listener {name}" for name in NAMES[::-1])
        self.assertEqual(len(read_frame(text)), 40)
        for line in ("driver zz", "listener aa", "", "x", "driver", "driver A b"):
            self.assertEqual(self.fault(read_frame, f"{text}\n{line}"), (41, 0))
        self.assertEqual(self.fault(read_frame, text.replace("bn", "bm") + "\ndriver zz"), (2, 1))

    def test_a_newline_at_the_end(self):
        self.assertEqual(self.fault(read_frame, "frame 1\n"), (1, 0))
        self.assertEqual(self.fault(read_frame, "\nframe 1"), (0, 0))
        self.assertEqual(self.fault(read_frame, "frame 1\n\ndriver a"), (1, 0))

    def test_changed_texts(self):
        random_one = random.Random(253)
        told = []
        for frame, _, _ in samples(254, 150):
            text = frame_text(frame)
            for _ in range(12):
                other = changed(random_one, text, WORDS)
                told.append(self.look_at(frame_fault([line.split(" ") for line in other.split("\n")]), read_frame, other))
        self.assertGreater(sum(told), 100)
        self.assertGreater(len(told) - sum(told), 500)


class Words(Reading):
    def test_right_ones(self):
        for text, told in (("rest", {}), ("a=0", {"a": 0}), ("b=1 a=0", {"a": 0, "b": 1}), ("a=2", {}), ("rest=0", {"rest": 0}), ("rest=2", {}),
                           ("a=1 rest=1 b=2", {"a": 1, "rest": 1})):
            self.assertEqual(read_word(F, text), Word.of(F, told))
        self.assertEqual(read_word(Frame(), "rest"), Word(Frame()))

    def test_wrong_ones(self):
        for text, word in (
            ("", 0), (" ", 0), ("a", 0), ("a=", 0), ("=0", 0), ("a=3", 0), ("a=00", 0), ("a=-1", 0), ("a=0=0", 0), ("a==0", 0), ("c=0", 0), ("ground=0", 0),
            ("power=2", 0), ("zz=0", 0), ("A=0", 0), ("a=0 a=1", 1), ("a=0 b=1 a=0", 2), ("a=0 ", 1), (" a=0", 0), ("a=0  b=0", 1), ("rest rest", 0),
            ("rest a=0", 0), ("a=0 rest", 1), ("rest ", 0), ("a=0 rest ", 1), ("rest=0 rest", 1), ("Rest", 0), ("a=0\n", 0), ("a=0\nb=0", 0),
            ("b=1 a=0\n", 1), ("rest\n", 0), ("\nrest", 0), ("a=0 \nb=0", 1), ("a=01", 0), ("a=10", 0), ("a=x", 0), ("word a=0", 0), ("a=0,b=0", 0), ("a =0", 0),
        ):
            self.assertEqual(self.fault(read_word, F, text), (0, word), repr(text))
        self.assertEqual(self.fault(read_word, Frame(Driver("a")), "a=2"), (0, 0))
        self.assertEqual(self.fault(read_word, Frame(Driver("a")), "rest=0"), (0, 0))

    def test_changed_texts(self):
        random_one = random.Random(255)
        told = []
        for frame, rows, _ in samples(256, 200):
            for word in make_table(frame, rows).words:
                for _ in range(6):
                    other = changed(random_one, word_text(word), WORDS)
                    found = line_fault(other.split(" "), levels(frame, 0))
                    told.append(self.look_at(None if found is None else (0, found), read_word, frame, other))
        self.assertGreater(sum(told), 300)
        self.assertGreater(len(told) - sum(told), 1000)


class Boards(Reading):
    def test_right_ones(self):
        for text, blocks in (("", []), ("block b a", ["ab"]), ("block rest c\nblock power b a", [["c", "rest"], ["a", "b", "power"]]),
                             ("block ground a\nblock power b", [["a", "ground"], ["b", "power"]])):
            self.assertEqual(read_board(F, text), Board(F, *[list(block) for block in blocks]))
        self.assertEqual(read_board(Frame(), ""), Board(Frame()))

    def test_wrong_ones(self):
        for text, fault in (
            (" ", (0, 0)), ("\n", (0, 0)), ("block", (0, 1)), ("block ", (0, 1)), ("block a", (0, 2)), ("block a ", (0, 2)), ("block a a", (0, 2)),
            ("block a zz", (0, 2)), ("block zz", (0, 1)), ("block a b a", (0, 3)), ("block a b\n", (1, 0)), ("\nblock a b", (0, 0)), ("block a b\n\nblock c rest", (1, 0)),
            ("block a b\nblock c a", (1, 2)), ("block a b\nblock b", (1, 1)), ("block a b\nblock c", (1, 2)), ("block ground power", (0, 2)),
            ("block power a ground", (0, 3)), ("block ground a power b", (0, 3)), ("blocks a b", (0, 0)), ("Block a b", (0, 0)), (" block a b", (0, 0)),
            ("block  a b", (0, 1)), ("block a  b", (0, 2)), ("block a b ", (0, 3)), ("block a b\nc rest", (1, 0)), ("block a nothing", (0, 2)),
            ("block a b\nblock ground power", (1, 2)), ("block ground ground", (0, 2)), ("block a ground\nblock ground b", (1, 1)), ("-", (0, 0)),
        ):
            self.assertEqual(self.fault(read_board, F, text), fault, repr(text))
        self.assertEqual(self.fault(read_board, Frame(Driver("a")), "block a ground"), (0, 2))

    def test_changed_texts(self):
        random_one = random.Random(257)
        told = []
        for frame, _, blocks in samples(258, 200):
            for _ in range(6):
                other = changed(random_one, board_text(Board.of(frame, blocks)), WORDS + list(frame.members))
                told.append(self.look_at(board_fault(frame, other), read_board, frame, other))
        self.assertGreater(sum(told), 100)
        self.assertGreater(len(told) - sum(told), 300)


class Sessions(Reading):
    AHEAD = "frame 1 ground\ndriver a\nlistener b\ndriver rest\n"

    def test_right_ones(self):
        frame = Frame(Driver("a"), Listener("b"), Driver("rest"), ground=True)
        answer = {"a": 1, "b": 0, "rest": 1}
        for text, words in (("reads 1 0 1", []), ("reads 1 0 1\nword rest\nreads 1 0 1", [Word(frame)]),
                            ("reads 1 0 1\nword rest=0 a=1\nreads 1 0 1", [Word(frame, rest=0)])):
            self.assertEqual(read_session(self.AHEAD + text), (Table(frame, *words), [answer] * (len(words) + 1)))
        self.assertEqual(read_session("frame 3 power\nreads\nword rest\nreads"), (Table(Frame(top=3, power=True), Word(Frame(top=3, power=True))), [{}, {}]))
        self.assertEqual(read_session("frame 1\ndriver reads\nreads 0")[1], [{"reads": 0}])

    def test_answers_are_not_looked_at(self):
        self.assertEqual(read_session("frame 1\ndriver a\nreads 0\nword a=0\nreads 1")[1], [{"a": 0}, {"a": 1}])

    def test_lines_that_are_missing(self):
        for text, line in (
            ("frame 1", 1), ("frame 1\ndriver a", 2), (self.AHEAD[:-1], 4), (self.AHEAD + "reads 1 1 1\nword a=0", 6), ("frame 1\nreads\nword rest", 3),
        ):
            self.assertEqual(self.fault(read_session, text), (line, 0))

    def test_wrong_ones(self):
        for text, fault in (
            ("", (0, 0)), ("reads", (0, 0)), ("reads 1\nframe 1", (0, 0)), ("\nreads", (0, 0)), ("frame 4\nreads", (0, 1)), ("frame 4\nreads 1\nx", (0, 1)),
            ("frame 1\nword rest\nreads", (1, 0)), ("frame 1\nreads ", (1, 1)), ("frame 1\nreads 1", (1, 1)), ("frame 1\nreads\n", (2, 0)),
            ("frame 1\nreads\nreads", (2, 0)), ("frame 1\nreads\nword", (2, 1)), ("frame 1\nreads\nword ", (2, 1)), ("frame 1\nreads\nword rest\nword rest", (3, 0)),
            ("frame 1\nreads\nword rest rest\nreads", (2, 1)), ("frame 1\nreads\nword a=0\nreads", (2, 1)), ("frame 1\nreads\nword rest ", (2, 1)),
            ("frame 1\nreads\nword rest\nreads\n", (4, 0)), ("frame 1\ndriver a\n\nreads 1", (2, 0)), ("frame 1\ndriver a\nreads", (2, 1)),
            ("frame 1\ndriver a\nreads 1 1", (2, 2)), ("frame 1\ndriver a\nreads 2", (2, 1)), ("frame 1\ndriver a\nreads 01", (2, 1)), ("frame 1\ndriver a\nreads -1", (2, 1)),
            ("frame 1\ndriver a\nreads  1", (2, 1)), ("frame 1\ndriver a\nreads 1 ", (2, 2)), ("frame 1\ndriver a\nreads a=1", (2, 1)), ("frame 1\ndriver a\nread 1", (2, 0)),
            ("frame 1\ndriver a\ndriver b\nreads 1", (3, 2)), ("frame 1\ndriver a\ndriver b\nreads x", (3, 1)), ("frame 1\ndriver a\ndriver b\nreads 1 1 x", (3, 3)),
            ("frame 1\ndriver a\nreads 1\nword a=0 a=0\nreads 1", (3, 2)), ("frame 1\ndriver a\nreads 1\nword a=2\nreads 1", (3, 1)),
            ("frame 1\ndriver a\nreads 1\ndriver b\nreads 1 1", (3, 0)), ("frame 1\ndriver a\nreads 1\nword b=0\nreads", (3, 1)),
        ):
            self.assertEqual(self.fault(read_session, text), fault, repr(text))

    def test_fifty_nine_words_and_sixty(self):
        ahead = "frame 1\ndriver a\nreads 1"
        text = ahead + "\nword a=0\nreads 0" * 59
        table, answers = read_session(text)
        self.assertEqual((len(table), len(answers)), (60, 60))
        for line in ("word a=0", "reads 1", "", "x", "word", "word a=0\nreads 0"):
            self.assertEqual(self.fault(read_session, f"{text}\n{line}"), (121, 0))
        self.assertEqual(self.fault(read_session, ahead + "\nword a=0\nreads 0" * 60), (121, 0))
        self.assertEqual(self.fault(read_session, ahead + "\nword a=0\nreads 0" * 58 + "\nword a=0"), (120, 0))
        self.assertEqual(self.fault(read_session, text[:-1] + "2\nword a=0"), (120, 1))

    def test_changed_texts(self):
        random_one = random.Random(259)
        told = []
        for frame, rows, blocks in samples(260, 250):
            text = session_text(make_table(frame, rows), plain_answers(frame, blocks, rows))
            for _ in range(12):
                other = changed(random_one, text, WORDS)
                told.append(self.look_at(session_fault(other, read_frame), read_session, other))
        self.assertGreater(sum(told), 200)
        self.assertGreater(len(told) - sum(told), 1000)


if __name__ == "__main__":
    unittest.main()
