"""Points 45 and 46: texts of shapes, signals, sendings and readings."""

import random
import unittest

from startbits.errors import InvalidSyntax
from startbits.readings import readings
from startbits.shapes import size_of
from startbits.signals import sent, sent_text
from startbits.texts import format_readings, format_sending, format_shape, format_signal
from startbits.texts import parse_sending, parse_shape, parse_signal
from tests.reference import ALL_SHAPES
from tests.values import NO_NUMBERS

MOST = 10 ** 30 - 1


class ExampleTest(unittest.TestCase):
    def test_format(self):
        found = [format_shape((7, "even", 2)), format_signal([-5, 10 ** 20]), format_signal([])]
        self.assertEqual(found, ["7e2", "-5 100000000000000000000", ""])
        self.assertEqual(format_sending([(0, 65), (1600, 3)]), "0:65 1600:3")
        self.assertEqual(format_readings([(0, "good", 65), (1604, "break", 0)]), "0:good:65 1604:break:0")

    def test_parse(self):
        found = [parse_shape("9o1"), parse_signal("-5 0 12"), parse_signal(""),
                 parse_sending((8, "none", 1), 160, "0:65 1600:3")]
        self.assertEqual(found, [(9, "odd", 1), [-5, 0, 12], [], [(0, 65), (1600, 3)]])

    def test_wrong_words(self):
        with self.assertRaises(InvalidSyntax) as caught:
            parse_sending((8, "none", 1), 160, "0:65 1599:3")
        self.assertEqual(caught.exception.word, 1)
        with self.assertRaises(InvalidSyntax) as caught:
            parse_signal("3 -0")
        self.assertEqual(caught.exception.word, 1)


class ShapeTest(unittest.TestCase):
    def test_each_shape_leads_back(self):
        texts = [format_shape(shape) for shape in ALL_SHAPES]
        self.assertEqual(len(set(texts)), len(ALL_SHAPES))
        self.assertEqual([parse_shape(text) for text in texts], ALL_SHAPES)
        self.assertEqual(texts[:6], ["1n1", "1n2", "1e1", "1e2", "1o1", "1o2"])

    def test_each_text_of_up_to_three_characters(self):
        texts = {format_shape(shape) for shape in ALL_SHAPES}
        characters = "0123456789neoNEO -:.\n"
        tried = [""] + [one for one in characters] + [one + other for one in characters for other in characters]
        tried += [two + one for two in tried[1 + len(characters):] for one in characters]
        found = set()
        for text in tried:
            try:
                found.add(format_shape(parse_shape(text)))
                self.assertIn(text, texts)
            except InvalidSyntax as error:
                self.assertNotIn(text, texts)
                self.assertIn(error.word, (0, 1))
        self.assertEqual(found, texts)


class SignalTest(unittest.TestCase):
    def test_signals_lead_back(self):
        rng = random.Random(70)
        signals = [[], [0], [-1], [-MOST, MOST], list(range(800)), list(range(-800, 0)), [-10 ** 29, 0, 10 ** 29]]
        signals += [sorted({rng.randint(-MOST, MOST) for _ in range(many)}) for many in (1, 2, 50, 800)]
        signals += [sent_text(shape, 7, [0, 1], -30) for shape in ALL_SHAPES]
        for signal in signals:
            self.assertEqual(parse_signal(format_signal(signal)), signal)

    def test_thirty_digits_and_one_more(self):
        for text in (str(MOST), str(-MOST)):
            self.assertEqual(parse_signal(text), [int(text)])
            self.assertEqual(len(text.lstrip("-")), 30)
        for text in (str(MOST + 1), str(-MOST - 1), "1" * 31, "-" + "1" * 31):
            with self.assertRaises(InvalidSyntax):
                parse_signal(text)
        # The text of a signal with longer ticks can be written, but is not read.
        self.assertEqual(format_signal([-10 ** 31, 10 ** 40]), "-1" + "0" * 31 + " 1" + "0" * 40)

    def test_no_numbers(self):
        for word in NO_NUMBERS[1:]:
            for text, index in [(word, 0), (f"-7 {word}", 1), (f"-7 {word} x", 1), (f"-7 -6 -5 {word} 9", 3)]:
                with self.assertRaises(InvalidSyntax) as caught:
                    parse_signal(text)
                self.assertEqual(caught.exception.word, index, text)

    def test_the_first_wrong_word_is_told(self):
        full = [str(tick) for tick in range(800)]
        cases = [(" ", 0), ("  ", 0), (" 1", 0), ("1 ", 1), ("1  2", 1), ("1 2 ", 2), ("1 1 0", 1), ("2 1 x", 1),
                 ("0 1 1", 2), ("5 -5", 1), (" ".join(full + ["800"]), 800), (" ".join(full) + " ", 800),
                 (" ".join(["x"] + full), 0), (" ".join(full[:700] + full), 700), (" ".join(full + ["x", "x"]), 800)]
        for text, index in cases:
            with self.assertRaises(InvalidSyntax) as caught:
                parse_signal(text)
            self.assertEqual(caught.exception.word, index, text)
        self.assertEqual(parse_signal(" ".join(full)), list(range(800)))


class SendingTest(unittest.TestCase):
    def test_sendings_lead_back(self):
        rng = random.Random(71)
        for shape in ALL_SHAPES:
            for length in (1, 160, 10 ** 27):
                ticks, tick = [], rng.choice([0, -10 ** 29, 5])
                for _ in range(rng.choice([0, 1, 2, 60])):
                    ticks.append(tick)
                    tick += size_of(shape) * length + rng.choice([0, 0, 1, length])
                sending = [(at, rng.randrange(2 ** shape[0])) for at in ticks]
                found = parse_sending(shape, length, format_sending(sending))
                self.assertEqual(found, sending)
                self.assertTrue(all(isinstance(item, tuple) for item in found))
                self.assertEqual(sent(shape, length, found), sent(shape, length, sending))

    def test_numbers_that_begin_too_early(self):
        for shape in [(1, "none", 1), (8, "none", 1), (9, "even", 2)]:
            for length in (1, 160, 10 ** 28):
                behind = size_of(shape) * length
                self.assertEqual(parse_sending(shape, length, f"-3:0 {behind - 3}:1"), [(-3, 0), (behind - 3, 1)])
                for tick in (behind - 4, -3, -4, -10 ** 29):
                    with self.assertRaises(InvalidSyntax) as caught:
                        parse_sending(shape, length, f"-3:0 {tick}:1")
                    self.assertEqual(caught.exception.word, 1)

    def test_numbers_of_the_shape(self):
        for bits in range(1, 10):
            shape = (bits, "none", 1)
            self.assertEqual(parse_sending(shape, 1, f"0:{2 ** bits - 1}"), [(0, 2 ** bits - 1)])
            for number in (str(2 ** bits), "-1", "-0", "00", str(MOST), str(MOST + 1)):
                with self.assertRaises(InvalidSyntax) as caught:
                    parse_sending(shape, 1, f"0:{number}")
                self.assertEqual(caught.exception.word, 0)

    def test_sixty_numbers_and_one_more(self):
        words = [f"{3 * at}:1" for at in range(61)]
        self.assertEqual(len(parse_sending((1, "none", 1), 1, " ".join(words[:60]))), 60)
        with self.assertRaises(InvalidSyntax) as caught:
            parse_sending((1, "none", 1), 1, " ".join(words))
        self.assertEqual(caught.exception.word, 60)


class ReadingTest(unittest.TestCase):
    def test_all_words(self):
        entries = [(-5, "good", 65), (0, "parity", 3), (10 ** 29, "frame", 511), (10 ** 30, "break", 0)]
        expected = "-5:good:65 0:parity:3 " + str(10 ** 29) + ":frame:511 " + str(10 ** 30) + ":break:0"
        self.assertEqual(format_readings(entries), expected)
        self.assertEqual(format_readings([]), "")
        self.assertEqual(format_readings(entries[:1]), "-5:good:65")

    def test_what_is_read(self):
        signal = sent_text((8, "none", 1), 160, [65, 66], 0)
        found = readings((8, "none", 1), (10, 8, 16), 0, signal)
        self.assertEqual(format_readings(found), "0:good:65 1600:good:66")

    def test_empty_lists(self):
        self.assertEqual([format_signal([]), format_sending([]), format_readings([])], ["", "", ""])
        self.assertEqual([parse_signal(""), parse_sending((8, "none", 1), 160, "")], [[], []])


if __name__ == "__main__":
    unittest.main()
