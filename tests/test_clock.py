"""The clock, the deadline and the end of a season."""

import unittest

from lines import begin, clear, deliver, more, played, replies, send, tick, write, written

NOTHING = (0,)


class Clock(unittest.TestCase):
    def test_now_is_later_by_n(self):
        self.assertEqual(replies(begin(span=1000), tick(0), tick(3), tick(0), tick(4)),
                         [[0], [0, 0], [3, 0], [3, 0], [7, 0]])

    def test_to_the_last_moment_and_one_beyond(self):
        told = replies(begin(span=1000000), *[tick(1000000)] * 99, tick(999999), tick(2), tick(1), tick(1), tick(0))
        self.assertEqual(told[-5:], [[99999999, 99], [-3], [100000000, 100], [-3], [100000000, 100]])

    def test_a_deadline_may_lie_behind_the_last_moment(self):
        game = played(begin(span=1000000), *[tick(1000000)] * 100)
        self.assertEqual(game.umpire.deadline, 101000000)


class Deadline(unittest.TestCase):
    def test_met_just(self):
        self.assertEqual(replies(begin(span=10), tick(10)), [[0], [10, 1]])

    def test_one_short(self):
        self.assertEqual(replies(begin(span=10), tick(9), tick(0), tick(1)), [[0], [9, 0], [9, 0], [10, 1]])

    def test_one_behind(self):
        self.assertEqual(replies(begin(span=10), tick(11)), [[0], [11, 1]])

    def test_far_behind_ends_just_one_season(self):
        told = replies(begin(span=10), tick(1000000), tick(0), tick(9), tick(1))
        self.assertEqual(told, [[0], [1000000, 1], [1000000, 1], [1000009, 1], [1000010, 2]])

    def test_the_new_one_is_span_behind_now(self):
        told = replies(begin(span=10), tick(17), tick(9), tick(1), tick(9), tick(1))
        self.assertEqual(told, [[0], [17, 1], [26, 1], [27, 2], [36, 2], [37, 3]])
        self.assertEqual(played(begin(span=10), tick(17)).umpire.deadline, 27)

    def test_shortest_and_longest_span(self):
        self.assertEqual(replies(begin(span=1), tick(0), tick(1), tick(1)), [[0], [0, 0], [1, 1], [2, 2]])
        self.assertEqual(replies(begin(span=1000000), tick(999999), tick(1)), [[0], [999999, 0], [1000000, 1]])


class Opening(unittest.TestCase):
    def test_sheets_are_put_behind_the_opened_and_are_as_at_first(self):
        game = played(begin(3), write(0, [1, 2]), send(0), deliver(0), write(2), send(2), deliver(1), tick(10))
        self.assertEqual(game.umpire.opened, [(written([1, 2]), NOTHING, written([]))])
        self.assertEqual([(sheet.version, sheet.written) for sheet in game.umpire.sheets], [(0, NOTHING)] * 3)
        more(game, tick(10))
        self.assertEqual(game.umpire.opened, [(written([1, 2]), NOTHING, written([])), (NOTHING,) * 3])

    def test_taken_back_is_opened_as_nothing(self):
        game = played(begin(), write(0, [1]), send(0), deliver(0), clear(0), send(0), deliver(1), tick(10))
        self.assertEqual(game.umpire.opened, [(NOTHING, NOTHING)])

    def test_what_has_not_come_is_not_opened(self):
        game = played(begin(), write(0, [1]), send(0), write(1, [2]), tick(10))
        self.assertEqual(game.umpire.opened, [(NOTHING, NOTHING)])

    def test_messages_and_machines_stay(self):
        game = played(begin(), write(0, [1]), send(0), tick(10))
        self.assertEqual(len(game.messages), 1)
        machine = game.machines[0]
        self.assertEqual((machine.season, machine.version, machine.draft), (0, 1, written([1])))


if __name__ == "__main__":
    unittest.main()
