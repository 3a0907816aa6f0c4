"""The three promises, on many lines that are drawn from a fixed seed, with all sixteen calls among them."""

import random
import unittest

from lines import (GREATEST, LEAST, all_but_begin, apart, ask, bag, begin, clear, deliver, double, got, image, joined,
                   lose, more, played, replies, see, send, start, stop, tell, tick, umpire, write, written)
from sealedorders.game import Game, answers

NOTHING = (0,)
LINES = 300
CALLS = 200
WRITE = 2
CLEAR = 3
SEE = 12
GOT = 13


def drawn_text(draw):
    return [draw.randrange(256) for number in range(draw.choice((0, 1, 2, 3, 120)))]


def drawn_begin(draw, powers):
    return begin(powers, draw.choice((10, 30, 60, 60)), draw.choice((1, 3, 8, 100)))


def drawn_call(draw, powers):
    """One call, most of them in range and such that messages come through."""
    p = draw.randrange(powers)
    i = draw.randrange(4)
    season = draw.choice((0, 0, 1, 2, 3))
    common = [write(p, drawn_text(draw)), clear(p), ask(p), deliver(i), lose(i), double(i), tick(draw.randrange(25)),
              tell(season), see(p), got(p, season), umpire(), bag(), start()]
    common += [send(p)] * 4 + [deliver(0)] * 8
    rare = [stop(), drawn_begin(draw, powers), begin(8), write(p, [0, 256])]
    rare += all_but_begin(draw.choice((LEAST, -1, 7, GREATEST)))
    return draw.choice(common if draw.randrange(20) else rare)


def drawn_calls(draw, powers):
    """One call, or a few by which a text comes through if nothing stands in its way."""
    if draw.randrange(12):
        return [drawn_call(draw, powers)]
    p = draw.randrange(powers)
    return [write(p, drawn_text(draw)), send(p)] + [deliver(0)] * 5


def powers_of(seed):
    return 2 + seed % 6


def drawn_line(seed):
    draw = random.Random(seed)
    powers = powers_of(seed)
    line = [drawn_call(draw, powers) for call in range(draw.choice((0, 0, 3)))]
    line.append(drawn_begin(draw, powers))
    while len(line) < CALLS:
        line += drawn_calls(draw, powers)
    return line[:CALLS]


def rewritten(line, power, change):
    """The same line, but what this power writes is another."""
    return [change(call) if call[0] in (WRITE, CLEAR) and call[1] == power else call for call in line]


def is_fit(call):
    return len(call) <= 123 and all(0 <= number <= 255 for number in call[3:])


def other_numbers(call):
    return call[:3] + [255 - number for number in call[3:]] if call[0] == WRITE and is_fit(call) else call


def no_numbers(call):
    return write(call[1]) if call[0] == WRITE and is_fit(call) else call


def taken_back(call):
    return clear(call[1]) if call[0] == WRITE and is_fit(call) else call


def turned_round(call):
    """A text where it was taken back, and taken back where there was a text."""
    return write(call[1], [9, 9]) if call[0] == CLEAR else taken_back(call)


class Watch:
    """Plays a line call by call and keeps what each power wrote in each season, and what it may be sure of."""

    def __init__(self):
        self.game = Game()
        self.forget()

    def forget(self):
        self.wrote = {}
        self.sure = {}

    def play(self, line):
        for call in line:
            answer = more(self.game, call)[0]
            if answer[0] < 0:
                continue
            if call[0] == 0:
                self.forget()
            if call[0] in (WRITE, CLEAR):
                self.note_draft(call)
            if call[0] == GOT:
                self.check_got(call, answer)
            self.note_what_is_sure()

    def look(self, call):
        return more(self.game, call)[0]

    def powers(self):
        return range(len(self.game.machines))

    def note_draft(self, call):
        p = call[1]
        season = self.look(see(p))[0]
        what = written(call[3:]) if call[0] == WRITE else NOTHING
        self.wrote.setdefault((p, season), []).append(what)
        self.sure.pop((p, season), None)

    def note_what_is_sure(self):
        goes_on = self.look(umpire())[2]
        for p in self.powers():
            season, version, acknowledged, *draft = self.look(see(p))
            if season == goes_on and version == acknowledged and draft[0] == 1:
                self.sure[p, season] = tuple(draft[1:])

    def check_got(self, call, answer):
        if call[2] >= self.look(umpire())[2] or len(apart(answer)) != len(self.powers()):
            raise AssertionError(f"{call!r} answered {answer!r}")

    def bring_all(self):
        """Let every machine get every season, and give back what each has got then."""
        for message in range(self.look(bag())[0]):
            more(self.game, lose(0))
        more(self.game, start())
        seasons = self.look(umpire())[2]
        for p in self.powers():
            while self.look(see(p))[0] < seasons:
                if more(self.game, ask(p), deliver(0), deliver(0)) != [[0], [1], [0]]:
                    raise AssertionError(f"power {p} is not told")
        return [[apart(self.look(got(p, season))) for season in range(seasons)] for p in self.powers()]


def watched(seed):
    watch = Watch()
    watch.play(drawn_line(seed))
    return watch


class Drawn(unittest.TestCase):
    def test_every_call_is_among_them_refused_and_not(self):
        went = set()
        refused = set()
        for seed in range(LINES):
            line = drawn_line(seed)
            self.assertEqual(len(line), 200)
            self.assertLessEqual(len(joined(line)), 16000)
            for call, answer in zip(line, replies(*line)):
                if answer[0] < 0:
                    refused.add((call[0], answer[0]))
                else:
                    went.add(call[0])
        self.assertEqual(went, set(range(16)))
        own = {(4, -4), (4, -5), (5, -5), (8, -5), (9, -6), (10, -6), (11, -6), (11, -7), (13, -7)}
        with_numbers = (0, 1, 2, 3, 4, 5, 6, 7, 8, 11, 12, 13)
        self.assertEqual(own - refused, set())
        self.assertEqual({(call, -2) for call in with_numbers} - refused, set())

    def test_a_second_time_gives_the_same_and_the_list_is_the_same(self):
        for seed in range(0, LINES, 5):
            line = joined(drawn_line(seed))
            kept = list(line)
            told = answers(line)
            self.assertEqual(line, kept)
            self.assertEqual(answers(line), told)

    def test_a_refusal_changes_nothing(self):
        for seed in range(0, LINES, 5):
            game = Game()
            for call in drawn_line(seed):
                before = image(game)
                if more(game, call)[0][0] < 0:
                    self.assertEqual(image(game), before)

    def test_the_messages_are_never_more_than_room(self):
        for seed in range(0, LINES, 5):
            game = Game()
            for call in drawn_line(seed):
                more(game, call)
                self.assertLessEqual(len(game.messages), game.room)


class Promises(unittest.TestCase):
    def assert_alike(self, power, line, other):
        """The answers are the same, but for see of that power and what is opened of it."""
        differ = 0
        for call, first, second in zip(line, replies(*line), replies(*other)):
            if call[0] == GOT and first[0] >= 0:
                first = apart(first)
                second = apart(second)
                differ += first != second
                first[power] = second[power]
            if call != see(power):
                self.assertEqual(first, second, call)
        return differ

    def test_1_no_answer_hangs_on_what_is_written(self):
        for change in (other_numbers, no_numbers, taken_back, turned_round):
            differ = 0
            for seed in range(LINES):
                line = drawn_line(seed)
                power = seed // 6 % powers_of(seed)
                differ += self.assert_alike(power, line, rewritten(line, power, change))
            self.assertGreater(differ, 10)

    def test_1_see_of_a_power_tells_its_own_text_alone(self):
        told = replies(begin(), write(0, [1, 2]), see(0), see(1), umpire(), send(0), bag(), deliver(0), bag(), see(1))
        self.assertEqual([told[2], told[3], told[9]], [[0, 1, 0, 1, 1, 2, 1, 2], [0, 0, 0, 0], [0, 0, 0, 0]])

    def test_2_what_is_acknowledged_is_what_is_opened(self):
        checked = 0
        for seed in range(LINES):
            watch = watched(seed)
            seasons = watch.bring_all()[0]
            for (p, season), draft in watch.sure.items():
                if season < len(seasons):
                    checked += draft != NOTHING
                    self.assertEqual(seasons[season][p], draft)
        self.assertGreater(checked, 100)

    def test_3_what_is_opened_was_written_in_that_season(self):
        texts = 0
        for seed in range(LINES):
            watch = watched(seed)
            for season, row in enumerate(watch.bring_all()[0]):
                for p, what in enumerate(row):
                    if what != NOTHING:
                        texts += 1
                        self.assertIn(what, watch.wrote[p, season])
        self.assertGreater(texts, 100)

    def test_3_all_powers_get_the_same(self):
        shared = 0
        for seed in range(LINES):
            machines = watched(seed).bring_all()
            for seasons in machines:
                shared += len(seasons)
                self.assertEqual(seasons, machines[0])
        self.assertGreater(shared, 1000)

    def test_nothing_can_be_handed_in_behind(self):
        game = played(begin(), write(0, [1]), send(0), tick(10), deliver(0), tick(10))
        self.assertEqual(more(game, tell(0), deliver(1), tell(1), deliver(2), got(0, 0), got(0, 1))[-2:],
                         [[0, 0], [0, 0]])


if __name__ == "__main__":
    unittest.main()
