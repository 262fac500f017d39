"""Points 47 and 48: a console."""

import random
import unittest

from startbits import errors
from startbits.console import Console
from startbits.drift import first_risk
from startbits.live import Line
from startbits.records import count_texts
from startbits.speeds import safe_lengths
from startbits.telling import lengths_of
from startbits.texts import format_readings, format_shape, format_signal
from tests.reference import ALL_SHAPES
from tests.values import NO_NUMBERS, NO_STRINGS

QUESTIONS = ["readings", "would", "signal", "state", "next", "calls", "safe", "lengths", "risk 160", "risk 169",
             "texts 150 170"]


def answers(console):
    return [answer_or_error(console, question) for question in QUESTIONS]


def answer_or_error(console, command):
    try:
        return console.execute(command)
    except errors.LineError as error:
        return type(error), vars(error)


def plain_answers(shape, receiver, phase, calls):
    """What a console must answer to the questions, from the functions and a line of its own."""
    line = Line(shape, receiver, phase)
    for name, *values in calls:
        line.set_level(*values) if name == "level" else line.wait(*values)
    word, look = line.state
    safe = safe_lengths(shape, receiver)
    found = [format_readings(line.readings), format_readings(line.would_be()), format_signal(line.signal),
             word if look is None else f"{word} {look}", str(line.next_look), str(len(calls)),
             "" if safe is None else f"{safe[0]} {safe[1]}",
             " ".join(str(length) for length, _ in lengths_of(shape, line.signal))]
    for length in (160, 169):
        if 0 <= phase < receiver[0]:
            risk = first_risk(shape, receiver, length, phase)
            found.append("" if risk is None else str(risk))
        else:
            found.append((errors.InvalidPhase, {}))
    found.append(str(count_texts(shape, 150, 170, line.signal)))
    return [text or "none" for text in found]


class ExampleTest(unittest.TestCase):
    def check(self, console, commands, expected):
        self.assertEqual([console.execute(command) for command in commands], expected)

    def test_speeds(self):
        self.check(Console(), ["safe", "risk 169", "phase 3", "risk 169", "shape 8n2", "safe"],
                   ["153 168", "0", "ok", "none", "ok", "154 168"])

    def test_a_line(self):
        console = Console()
        self.check(console, ["readings", "signal", "next", "level 0 0", "level 1 1440", "state", "next"],
                   ["none", "none", "0", "ok", "ok", "frame 1520", "1520"])
        self.check(console, ["readings", "would", "wait 1600", "readings", "state", "next", "calls"],
                   ["none", "0:good:0", "ok", "0:good:0", "idle", "1600", "3"])
        self.check(console, ["signal", "lengths", "texts 150 170", "texts 100 200", "undo", "calls"],
                   ["0 1440", "160 180 240 288 360 480 720 1440", "1", "2", "ok", "2"])

    def test_errors(self):
        with self.assertRaises(errors.InvalidReceiver) as caught:
            Console().execute("receiver 10 8 0")
        self.assertEqual(caught.exception.index, 2)
        with self.assertRaises(errors.InvalidCommand):
            Console().execute("wait  5")


class CommandTest(unittest.TestCase):
    def test_at_first(self):
        self.assertEqual(answers(Console()), plain_answers((8, "none", 1), (10, 8, 16), 0, []))
        self.assertEqual(Console().execute("calls"), "0")

    def test_commands_behind_one_another(self):
        rng = random.Random(80)
        for _ in range(30):
            console, shape, receiver, phase, calls = Console(), (8, "none", 1), (10, 8, 16), 0, []
            for _ in range(40):
                kind = rng.choice(["shape", "receiver", "phase", "undo"] + ["level", "wait"] * 8)
                tick = (calls[-1][-1] if calls else rng.randint(-50, 50)) + rng.choice([0, 1, 160, 320, 999])
                if kind in ("shape", "receiver", "phase"):
                    shape = rng.choice(ALL_SHAPES) if kind == "shape" else shape
                    receiver = rng.choice([(10, 8, 16), (7, 3, 9), (1, 0, 1)]) if kind == "receiver" else receiver
                    phase = rng.choice([0, 3, 9, -7, 10 ** 20]) if kind == "phase" else phase
                    words = {"shape": format_shape(shape), "receiver": " ".join(str(part) for part in receiver),
                             "phase": phase}
                    command, calls = f"{kind} {words[kind]}", []
                elif kind == "undo":
                    if not calls:
                        with self.assertRaises(errors.NothingToUndo):
                            console.execute("undo")
                        continue
                    command, calls = "undo", calls[:-1]
                else:
                    calls = calls + [("wait", tick) if kind == "wait" else ("level", rng.choice([0, 1]), tick)]
                    command = " ".join(str(word) for word in calls[-1])
                self.assertEqual(console.execute(command), "ok")
                self.assertEqual(answers(console), plain_answers(shape, receiver, phase, calls))

    def test_the_commands_of_a_new_line_keep_the_rest(self):
        console = Console()
        for command in ["level 0 5", "shape 7e2", "wait 3", "receiver 5 2 9", "level 0 -9", "phase -4"]:
            self.assertEqual(console.execute(command), "ok")
        self.assertEqual(answers(console), plain_answers((7, "even", 2), (5, 2, 9), -4, []))

    def test_states(self):
        console = Console()
        for command, state, look in [("wait 0", "idle", "0"), ("level 0 1", "idle", "10"), ("wait 11", "frame 90", "90"),
                                     ("wait 1530", "frame 1530", "1530"), ("wait 1531", "waiting", "1540"),
                                     ("level 1 1535", "waiting", "1540"), ("wait 1541", "idle", "1550")]:
            self.assertEqual(console.execute(command), "ok")
            self.assertEqual([console.execute("state"), console.execute("next")], [state, look])
        self.assertEqual(console.execute("readings"), "10:break:0")

    def test_answers_of_none(self):
        console = Console()
        for question in ["readings", "would", "signal", "lengths"]:
            self.assertEqual(console.execute(question), "none")
        self.assertEqual(console.execute("texts 1 1"), "1")
        console.execute("receiver 10 100 1")
        self.assertEqual([console.execute("safe"), console.execute("risk 160")], ["none", "0"])
        console.execute("level 0 7")
        self.assertEqual([console.execute("lengths"), console.execute("texts 1 100")], ["none", "0"])

    def test_long_numbers(self):
        console = Console()
        far = "9" * 30
        self.assertEqual([console.execute(f"level 0 -{far}"), console.execute(f"level 1 {far}")], ["ok", "ok"])
        self.assertEqual(console.execute("signal"), f"-{far} {far}")
        self.assertEqual(console.execute("readings"), "0:break:0")
        self.assertEqual(console.execute(f"receiver {far} {far} {far}"), "ok")
        self.assertEqual(console.execute(f"phase {far}"), "ok")
        self.assertEqual([console.execute("next"), console.execute("calls")], [far, "0"])
        self.assertEqual(console.execute("phase 0"), "ok")
        self.assertEqual(console.execute("risk " + "1" + "0" * 29), "0")

    def test_consoles_do_not_change_one_another(self):
        one, other = Console(), Console()
        one.execute("shape 5o2")
        one.execute("level 0 3")
        self.assertEqual(answers(other), answers(Console()))

    def test_execute_by_name(self):
        self.assertEqual(Console().execute(command="next"), "0")


class ErrorTest(unittest.TestCase):
    def console(self):
        console = Console()
        for command in ["shape 7e1", "phase 10", "level 0 5", "level 1 165", "wait 2000"]:
            console.execute(command)
        return console

    def check_error(self, console, command, error, fields=None):
        """A command that raises an error changes nothing."""
        before = answers(console)
        with self.assertRaises(errors.LineError) as caught:
            console.execute(command)
        self.assertIs(type(caught.exception), error, command)
        self.assertEqual(vars(caught.exception), fields or {}, command)
        self.assertEqual(answers(console), before)

    def test_words_left_out_and_added_and_in_another_case(self):
        console = self.console()
        forms = ["shape 8n1", "receiver 10 8 16", "phase 3", "level 1 2000", "wait 2000", "undo", "readings", "would",
                 "signal", "state", "next", "calls", "safe", "risk 160", "lengths", "texts 1 9"]
        for form in forms:
            words = form.split(" ")
            wrong = [form.upper(), form.title(), form + " ", " " + form, "  ".join(words + [""]), form + " 5",
                     form + "\n", words[0] + "s " + " ".join(words[1:]), "\t".join(words) + "\t", form + " x"]
            wrong += [" ".join(words[:-1]), "  ".join(words)] if len(words) > 1 else [words[0] + "  "]
            wrong += [words[0] + " " + "\n".join(words[1:] + ["0"])]
            for command in wrong:
                self.check_error(console, command, errors.InvalidCommand)

    def test_what_is_no_command(self):
        console = self.console()
        for command in NO_STRINGS + ["", " ", "  ", "help", "ok", "none", "undo undo", "0", "8n1", "begin", "line",
                                     "set_level 0 2000", "would_be", "next_look", "log", "tick", "exit", "safe\n"]:
            self.check_error(console, command, errors.InvalidCommand)

    def test_words_that_are_no_numbers(self):
        console = self.console()
        for word in NO_NUMBERS:
            for command in [f"receiver {word} 8 16", f"receiver 10 {word} 16", f"receiver 10 8 {word}", f"phase {word}",
                            f"level {word} 2000", f"level 1 {word}", f"wait {word}", f"risk {word}",
                            f"texts {word} 9", f"texts 1 {word}"]:
                self.check_error(console, command, errors.InvalidCommand)
        for word in ["10n1", "0n1", "8n3", "8x1", "8N1", "8n", "n1", "8", "", "8n1n", "8-1", "7E2", "8none1"]:
            self.check_error(console, f"shape {word}", errors.InvalidCommand)

    def test_errors_of_what_a_command_needs(self):
        console = self.console()
        for command, index in [("receiver 0 8 16", 0), ("receiver -1 -1 -1", 0), ("receiver 10 -1 0", 1),
                               ("receiver 10 8 0", 2), ("receiver 10 8 -16", 2)]:
            self.check_error(console, command, errors.InvalidReceiver, {"index": index})
        for command, error in [("level 2 5", errors.InvalidLevel), ("level -1 5000", errors.InvalidLevel),
                               ("level 2 5000", errors.InvalidLevel), ("level 0 1999", errors.InvalidTick),
                               ("wait 1999", errors.InvalidTick), ("wait -2000", errors.InvalidTick),
                               ("risk 0", errors.InvalidLength), ("risk -160", errors.InvalidLength),
                               ("risk 169", errors.InvalidPhase), ("texts 0 5", errors.InvalidLength),
                               ("texts -1 -2", errors.InvalidLength), ("texts 5 4", errors.InvalidLength)]:
            self.check_error(console, command, error)
        console.execute("phase -1")
        self.check_error(console, "risk 169", errors.InvalidPhase)
        self.check_error(console, "risk 0", errors.InvalidLength)
        self.check_error(console, "undo", errors.NothingToUndo)

    def test_a_wrong_form_comes_ahead_of_all_other_errors(self):
        console = self.console()
        for command in ["receiver 0 8", "receiver 0 8 x", "level 2 x", "wait 1999 0", "risk 0 0", "texts 0 x",
                        "shape 10n1", "phase x", "undo 1"]:
            self.check_error(console, command, errors.InvalidCommand)

    def test_undo_goes_back_to_no_call(self):
        console = self.console()
        for _ in range(3):
            self.assertEqual(console.execute("undo"), "ok")
        self.check_error(console, "undo", errors.NothingToUndo)
        self.assertEqual([console.execute("calls"), console.execute("next")], ["0", "10"])


if __name__ == "__main__":
    unittest.main()
