"""What holds over the whole program: its parts agree, and ticks may be moved and multiplied."""

import random
import unittest

from startbits.bits import parsed
from startbits.console import Console
from startbits.drift import first_risk, good_offsets, lasting_phases
from startbits.flow import lost_in, most_waiting, run_flow, worst_delay
from startbits.lengths import lengths_for
from startbits.live import Line
from startbits.lone import lengths_as, read_alone
from startbits.mixed import is_read_by, read_by
from startbits.readings import is_read_right, readings, state_behind
from startbits.records import count_texts, is_possible, least_high, nth_text, text_index
from startbits.shapes import levels_of, size_of
from startbits.signals import moved, multiplied, sent, sent_text, sent_unevenly, together
from startbits.speeds import is_safe, is_safe_span, misread_paper, safe_lengths, shows_misread
from startbits.telling import lengths_of
from startbits.texts import format_readings, format_sending, format_shape, format_signal
from startbits.texts import parse_sending, parse_shape, parse_signal
from tests.reference import ALL_SHAPES

RECEIVERS = [(10, 8, 16), (1, 0, 1), (7, 3, 9), (3, 1, 4), (10 ** 20, 8, 16)]
BY = 10 ** 27


def some_text(rng, shape, many):
    return [rng.randrange(2 ** shape[0]) for _ in range(many)]


def some_signal(rng, many, most):
    signal = [rng.randint(-most, most)]
    while len(signal) < many:
        signal.append(signal[-1] + rng.randint(1, most))
    return signal


def told_live(shape, receiver, phase, signal, tick):
    """A line that was told of a signal up to a tick."""
    line = Line(shape, receiver, phase)
    for at, change in enumerate(signal):
        if change <= tick:
            line.set_level(at % 2, change)
    line.wait(tick)
    return line


class LiveLineTest(unittest.TestCase):
    def test_a_live_line_and_its_signal(self):
        rng = random.Random(90)
        for shape in ALL_SHAPES:
            receiver = rng.choice(RECEIVERS)
            signal = [tick * receiver[0] // 2 for tick in some_signal(rng, 24, 40)]
            signal = sorted(set(signal))
            phase = rng.randint(-5, 5)
            every = readings(shape, receiver, phase, signal)
            for tick in signal[::5] + [signal[-1] + 10 ** 24]:
                line = told_live(shape, receiver, phase, signal, tick)
                self.assertEqual(line.signal, [change for change in signal if change <= tick])
                self.assertEqual(line.readings, every[:len(line.readings)])
                self.assertEqual(line.would_be(), readings(shape, receiver, phase, line.signal))
                self.assertEqual(line.state, state_behind(shape, receiver, phase, signal, tick - 1))
            self.assertEqual(line.readings, every)

    def test_a_console_and_its_line(self):
        signal = sent_text((8, "none", 1), 160, [65, 255, 0], 3)
        console, line = Console(), Line((8, "none", 1), (10, 8, 16), 0)
        for at, tick in enumerate(signal):
            console.execute(f"level {at % 2} {tick}")
            line.set_level(at % 2, tick)
            self.assertEqual(console.execute("would"), format_readings(line.would_be()))
        self.assertEqual(console.execute("signal"), format_signal(signal))


class SpeedTest(unittest.TestCase):
    def test_safe_lengths_papers_risks_and_readings(self):
        rng = random.Random(91)
        for shape in ALL_SHAPES:
            for receiver in RECEIVERS:
                grain = receiver[0]
                safe = safe_lengths(shape, receiver)
                lengths = [16 * grain, 17 * grain + 1] + ([safe[0] - 1, safe[0], safe[1], safe[1] + 1] if safe else [])
                for length in [length for length in lengths if length >= 1]:
                    self.check_length(rng, shape, receiver, length)

    def check_length(self, rng, shape, receiver, length):
        grain = receiver[0]
        safe, paper = is_safe(shape, receiver, length), misread_paper(shape, receiver, length)
        self.assertIs(safe, paper is None)
        self.assertIs(safe, is_safe_span(shape, receiver, length, length))
        self.assertIs(safe, good_offsets(shape, receiver, length) == (0, grain - 1))
        phases = sorted({0, grain // 2, grain - 1, rng.randrange(grain)})
        risks = [first_risk(shape, receiver, length, phase) for phase in phases]
        if safe:
            self.assertEqual(risks, [None] * len(phases))
            for phase in phases:
                text = some_text(rng, shape, 5)
                self.assertTrue(is_read_right(shape, receiver, phase, sent_text(shape, length, text, 0), text))
            self.assertGreaterEqual(worst_delay(shape, receiver, length), 0)
        else:
            self.assertTrue(shows_misread(shape, receiver, length, paper))
            phase, text = paper
            self.assertFalse(is_read_right(shape, receiver, phase, sent_text(shape, length, text, 0), text))
        lasting = lasting_phases(shape, receiver, length)
        for phase, risk in zip(phases, risks):
            if risk is None:
                self.assertTrue(lasting[1] <= phase % lasting[0] <= lasting[2])
            many = 5 if risk is None else min(risk, 5)
            text = some_text(rng, shape, many)
            # The numbers ahead of the first one at risk are read right.
            found = readings(shape, receiver, phase, sent_text(shape, length, text + [0], 0))[:many]
            self.assertEqual([reading[1:] for reading in found], [("good", number) for number in text])

    def test_lengths_of_a_text_hold_the_safe_ones(self):
        rng = random.Random(92)
        for shape in ALL_SHAPES[::3]:
            for receiver in [(10, 8, 16), (9, 4, 9)]:
                safe = safe_lengths(shape, receiver)
                text = some_text(rng, shape, 3)
                stretches = lengths_for(shape, receiver, 4, text, 10 ** 6)
                if safe is not None:
                    self.assertTrue(any(least <= safe[0] and safe[1] <= greatest for least, greatest in stretches))
                number = text[0]
                self.assertEqual(lengths_as(shape, receiver, 4, number, [number], 10 ** 6),
                                 lengths_for(shape, receiver, 4, [number], 10 ** 6))


class MovedTest(unittest.TestCase):
    """All ticks moved by a number, or multiplied by one."""

    def test_readings_and_states(self):
        rng = random.Random(93)
        for shape in ALL_SHAPES:
            receiver, phase = rng.choice(RECEIVERS[:4]), rng.randint(-9, 9)
            signal = some_signal(rng, 40, 50)
            found = readings(shape, receiver, phase, signal)
            for by in (-7, 10 ** 29):
                self.assertEqual(readings(shape, receiver, phase + by, moved(signal, by)),
                                 [(tick + by, word, number) for tick, word, number in found])
            wide = (receiver[0] * BY,) + receiver[1:]
            self.assertEqual(readings(shape, wide, phase * BY, multiplied(signal, BY)),
                             [(tick * BY, word, number) for tick, word, number in found])
            for tick in signal[::7]:
                word, look = state_behind(shape, receiver, phase, signal, tick)
                far = state_behind(shape, wide, phase * BY, multiplied(signal, BY), tick * BY)
                self.assertEqual(far, (word, None if look is None else look * BY))

    def test_live_lines(self):
        rng = random.Random(94)
        for shape in ALL_SHAPES[::4]:
            signal = some_signal(rng, 30, 40)
            near = told_live(shape, (3, 1, 4), 2, signal, signal[-1] + 5)
            far = told_live(shape, (3, 1, 4), 2 + BY, moved(signal, BY), signal[-1] + 5 + BY)
            self.assertEqual(far.signal, moved(near.signal, BY))
            self.assertEqual(far.readings, [(tick + BY, word, number) for tick, word, number in near.readings])
            self.assertEqual(far.next_look, near.next_look + BY)

    def test_speeds(self):
        for shape in ALL_SHAPES[::2]:
            for grain, wait, step in RECEIVERS[:4]:
                # At a multiplied grain a look can lie between the old ticks: so only the readings tell.
                for length in (grain * step, grain * step + 1):
                    phase = grain // 2
                    found = read_alone(shape, (grain, wait, step), length, phase, 1)
                    wide = read_alone(shape, (grain * BY, wait, step), length * BY, phase * BY, 1)
                    self.assertEqual(wide, [(tick * BY, word, number) for tick, word, number in found])

    def test_sendings(self):
        rng = random.Random(95)
        for shape in ALL_SHAPES:
            text = some_text(rng, shape, 6)
            signal = sent_text(shape, 7, text, 0)
            self.assertEqual(sent_text(shape, 7, text, 10 ** 29), moved(signal, 10 ** 29))
            self.assertEqual(sent_text(shape, 7 * BY, text, 0), multiplied(signal, BY))
            lasts = [7] * len(levels_of(shape, text))
            self.assertEqual(sent_unevenly(shape, text, 0, lasts), signal)
            sending = [(at * 7 * size_of(shape), number) for at, number in enumerate(text)]
            self.assertEqual(sent(shape, 7, sending), signal)
            self.assertEqual(together(signal, signal), signal)

    def test_flows(self):
        rng = random.Random(96)
        for _ in range(60):
            flow = (rng.randint(1, 6), rng.randint(1, 9), rng.randint(1, 9), 1, rng.randint(2, 4))
            takes = sorted(rng.randint(0, 60) for _ in range(9))
            wide = tuple(ticks * BY for ticks in flow[:3]) + flow[3:]
            self.assertEqual(run_flow(wide, 3, 20, [tick * BY for tick in takes]),
                             [(tick * BY, word) for tick, word in run_flow(flow, 3, 20, takes)])
            self.assertEqual(lost_in(flow, most_waiting(flow), 60, takes), 0)


class RecordTest(unittest.TestCase):
    def test_the_texts_of_records_at_the_lengths_of_a_signal(self):
        rng = random.Random(97)
        several = 0
        for shape in ALL_SHAPES:
            for length in (12, 160, 10 ** 29):
                text = some_text(rng, shape, rng.randint(1, 6))
                signal = sent_text(shape, length, text, -5)
                found = lengths_of(shape, signal)
                several += len(found) > 1
                self.assertIn((length, text), found)
                for other, numbers in found:
                    self.assertEqual(count_texts(shape, other, other, signal), 1)
                    self.assertEqual(nth_text(shape, other, other, signal, 0), numbers)
                    self.assertEqual(least_high(shape, other, signal), other)
                for other in (length - 1, length + 1, 5 * length):
                    if other not in [row[0] for row in found]:
                        self.assertFalse(is_possible(shape, other, other, signal))
        self.assertGreater(several, 10)

    def test_what_a_receiver_reads_is_a_text_of_the_record(self):
        rng = random.Random(98)
        for shape in ALL_SHAPES:
            receiver = (10, 8, 16)
            least, greatest = safe_lengths(shape, receiver)
            text = some_text(rng, shape, 5)
            lasts = [rng.randint(least, greatest) for _ in levels_of(shape, text)]
            signal = sent_unevenly(shape, text, 0, lasts)
            self.assertTrue(is_safe_span(shape, receiver, least, greatest))
            found = readings(shape, receiver, -3, signal)
            self.assertEqual([reading[1:] for reading in found], [("good", number) for number in text])
            self.assertGreaterEqual(text_index(shape, least, greatest, signal, text), 0)

    def test_two_shapes_and_one(self):
        rng = random.Random(99)
        for shape in ALL_SHAPES:
            for other in ALL_SHAPES[::7]:
                text = some_text(rng, shape, 4)
                found = read_by(shape, other, text)
                self.assertEqual(found, parsed(other, levels_of(shape, text), 0))
                self.assertEqual(found, readings(other, (1, 0, 1), 0, sent_text(shape, 1, text, 0)))
                if is_read_by(shape, other):
                    self.assertEqual([reading[1:] for reading in found], [("good", number) for number in text])


class TextTest(unittest.TestCase):
    def test_texts_lead_back(self):
        rng = random.Random(100)
        for shape in ALL_SHAPES:
            text = some_text(rng, shape, 5)
            sending = [(at * 9 * size_of(shape), number) for at, number in enumerate(text)]
            signal = sent(shape, 9, sending)
            self.assertEqual(parse_shape(format_shape(shape)), shape)
            self.assertEqual(parse_signal(format_signal(signal)), signal)
            self.assertEqual(parse_sending(shape, 9, format_sending(sending)), sending)


if __name__ == "__main__":
    unittest.main()
