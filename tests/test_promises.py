"""The three promises, on many lines that are drawn from a fixed seed."""

import random
import unittest

from lines import ask, begin, clear, deliver, image, joined, lose, more, played, send, tick, write, written
from sealedorders.game import Game, answers

NOTHING = (0,)
LINES = 300
CALLS = 120


def drawn_text(draw):
    return [draw.randrange(256) for number in range(draw.choice((0, 1, 2, 120)))]


def drawn_call(draw, powers):
    """One call, most of them in range and such that messages come through."""
    p = draw.randrange(powers)
    i = draw.randrange(4)
    choices = [write(p, drawn_text(draw)), clear(p), send(p), send(p), ask(p), deliver(i), deliver(0), deliver(0),
               lose(i), tick(draw.randrange(6))]
    return draw.choice(choices)


def drawn_line(seed):
    draw = random.Random(seed)
    powers = draw.randrange(2, 8)
    first = begin(powers, draw.randrange(1, 30), draw.choice((1, 3, 8, 100)))
    return [first] + [drawn_call(draw, powers) for call in range(CALLS)]


class Watch:
    """Plays a line call by call and keeps what each power wrote in each season."""

    def __init__(self, line):
        self.game = Game()
        self.wrote = {}
        self.line = line

    def steps(self):
        for call in self.line:
            before = image(self.game)
            more(self.game, call)
            if call[0] == 2:
                p = call[1]
                season = self.game.machines[p].season
                self.wrote.setdefault((p, season), []).append(written(call[3:]))
            yield call, before, image(self.game)


class Promises(unittest.TestCase):
    def test_1_no_answer_hangs_on_a_text(self):
        for seed in range(LINES):
            line = drawn_line(seed)
            others = [call[:3] + [255 - number for number in call[3:]] if call[0] == 2 else call for call in line]
            emptied = [write(call[1]) if call[0] == 2 else call for call in line]
            told = answers(joined(line))
            self.assertEqual(answers(joined(others)), told)
            self.assertEqual(answers(joined(emptied)), told)

    def test_2_what_is_acknowledged_is_what_is_opened(self):
        seen = 0
        for seed in range(LINES):
            watch = Watch(drawn_line(seed))
            for call, before, after in watch.steps():
                opened = after["umpire"][3]
                if len(opened) == len(before["umpire"][3]):
                    continue
                for p, (season, version, acknowledged, draft, rows) in enumerate(before["machines"]):
                    if season == before["umpire"][1] and draft is not None and version == acknowledged:
                        seen += 1
                        self.assertEqual(opened[-1][p], draft)
        self.assertGreater(seen, 50)

    def test_3_what_is_opened_was_written_in_that_season(self):
        texts = 0
        for seed in range(LINES):
            watch = Watch(drawn_line(seed))
            list(watch.steps())
            for season, row in enumerate(watch.game.umpire.opened):
                self.assertEqual(len(row), len(watch.game.machines))
                for p, what in enumerate(row):
                    if what != NOTHING:
                        texts += 1
                        self.assertIn(what, watch.wrote[p, season])
        self.assertGreater(texts, 50)

    def test_3_all_powers_get_the_same(self):
        got = 0
        for seed in range(LINES):
            game = Game()
            more(game, *drawn_line(seed))
            for machine in game.machines:
                got += len(machine.rows)
                self.assertEqual(len(machine.rows), machine.season)
                self.assertEqual(machine.rows, game.umpire.opened[:machine.season])
        self.assertGreater(got, 50)

    def test_nothing_can_be_handed_in_behind(self):
        game = played(begin(), write(0, [1]), send(0), tick(10), deliver(0), tick(10))
        self.assertEqual(game.umpire.opened, [(NOTHING, NOTHING)] * 2)

    def test_the_messages_are_never_more_than_room(self):
        for seed in range(LINES):
            for call, before, after in Watch(drawn_line(seed)).steps():
                self.assertLessEqual(len(after["messages"]), after["game"][2])


if __name__ == "__main__":
    unittest.main()
