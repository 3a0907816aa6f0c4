"""What is seen of a power's machine, and the opened seasons that it has got."""

import unittest

from lines import (apart, ask, begin, clear, deliver, double, got, last_reply, lose, more, played, replies, see, send,
                   stop, tell, tick, write, written)

NOTHING = (0,)


class See(unittest.TestCase):
    def test_no_draft(self):
        self.assertEqual(replies(begin(), see(0), see(1))[1:], [[0, 0, 0, 0]] * 2)

    def test_draft_that_is_nothing(self):
        self.assertEqual(last_reply(begin(), clear(0), see(0)), [0, 1, 0, 1, 0])
        self.assertEqual(last_reply(begin(), write(0, [3]), clear(0), see(0)), [0, 2, 0, 1, 0])

    def test_empty_text(self):
        self.assertEqual(last_reply(begin(), write(0), see(0)), [0, 1, 0, 1, 1, 0])

    def test_texts(self):
        for text in ([0], [255], [1, 0, 3], [0] * 120, [255] * 120, list(range(120))):
            self.assertEqual(last_reply(begin(), write(1, text), see(1)), [0, 1, 0, 1, 1, len(text)] + text)

    def test_the_draft_is_what_was_written_last(self):
        told = replies(begin(), write(0, [1, 2]), see(0), write(0, [3]), see(0), clear(0), see(0), write(0), see(0))
        self.assertEqual(told[2::2], [[0, 1, 0, 1, 1, 2, 1, 2], [0, 2, 0, 1, 1, 1, 3], [0, 3, 0, 1, 0],
                                      [0, 4, 0, 1, 1, 0]])

    def test_a_write_that_is_refused(self):
        told = replies(begin(), write(0, [1]), write(0, [256]), write(0, [0] * 121), see(0))
        self.assertEqual(told[2:], [[-2], [-2], [0, 1, 0, 1, 1, 1, 1]])

    def test_each_power_has_its_own(self):
        told = replies(begin(3), write(0, [1]), clear(2), clear(2), see(0), see(1), see(2))
        self.assertEqual(told[-3:], [[0, 1, 0, 1, 1, 1, 1], [0, 0, 0, 0], [0, 2, 0, 1, 0]])

    def test_sending_and_asking_and_a_hand_brought_change_nothing_there(self):
        told = replies(begin(), write(0, [1]), send(0), see(0), ask(0), see(0), deliver(0), see(0), deliver(0), see(0))
        self.assertEqual(told[3::2], [[0, 1, 0, 1, 1, 1, 1]] * 4)

    def test_behind_a_receipt(self):
        told = replies(begin(), write(0, [1]), write(0, [2]), send(0), deliver(0), write(0, [3]), deliver(0), see(0),
                       see(1))
        self.assertEqual(told[-2:], [[0, 3, 2, 1, 1, 1, 3], [0, 0, 0, 0]])

    def test_behind_a_receipt_of_a_lesser_version(self):
        told = replies(begin(), write(0), send(0), deliver(0), write(0), send(0), deliver(1), deliver(1), see(0),
                       deliver(0), see(0))
        self.assertEqual(told[-3:], [[0, 2, 2, 1, 1, 0], [0], [0, 2, 2, 1, 1, 0]])

    def test_behind_a_receipt_of_another_season(self):
        told = replies(begin(), write(0), send(0), deliver(0), tick(10), tell(0), deliver(1), deliver(0), see(0))
        self.assertEqual(told[-1], [1, 1, 0, 0])

    def test_behind_the_end_of_a_season_that_it_is_not_told_of(self):
        told = replies(begin(), write(0, [1]), send(0), deliver(0), deliver(0), tick(10), see(0))
        self.assertEqual(told[-1], [0, 1, 1, 1, 1, 1, 1])

    def test_behind_an_opened(self):
        told = replies(begin(), write(0, [1]), send(0), deliver(0), deliver(0), write(0, [2]), tick(10), tell(0),
                       deliver(0), see(0), send(0), see(1), deliver(0), see(1))
        self.assertEqual(told[-5:], [[1, 2, 1, 0], [-4], [0, 0, 0, 0], [0], [1, 0, 0, 0]])

    def test_writing_behind_an_opened(self):
        told = replies(begin(), clear(0), tick(10), ask(0), deliver(0), deliver(0), see(0), write(0, [9]), see(0))
        self.assertEqual(told[-3:], [[1, 1, 0, 0], [2], [1, 2, 0, 1, 1, 1, 9]])


class Got(unittest.TestCase):
    def test_nothing_an_empty_text_and_a_text_of_several_numbers(self):
        told = replies(begin(4), write(1), send(1), write(2, [5, 0, 255]), send(2), write(3, [8]), send(3), clear(3),
                       send(3), deliver(3), deliver(2), deliver(1), deliver(0), *[lose(0)] * 4, tick(10), tell(0),
                       deliver(0), got(0, 0))
        self.assertEqual(told[-1], [0, 1, 0, 1, 3, 5, 0, 255, 0])

    def test_it_begins_with_power_0(self):
        told = replies(begin(2), write(0, [7]), send(0), deliver(0), lose(0), tick(10), ask(1), deliver(0), deliver(0),
                       got(1, 0))
        self.assertEqual(told[-1], [1, 1, 7, 0])

    def test_nobody_had_anything(self):
        for powers in (2, 7):
            told = replies(begin(powers), tick(10), ask(0), deliver(0), deliver(0), got(0, 0))
            self.assertEqual(told[-1], [0] * powers)

    def test_the_longest_answer(self):
        texts = [[p] * 119 + [255] for p in range(7)]
        calls = [begin(7, 10, 100)]
        for p, text in enumerate(texts):
            calls += [write(p, text), send(p), deliver(0), lose(0)]
        answer = last_reply(*calls, tick(10), ask(3), deliver(0), deliver(0), got(3, 0))
        self.assertEqual(apart(answer), [written(text) for text in texts])
        self.assertEqual(len(answer), 7 * 122)

    def test_by_every_power_the_same(self):
        told = replies(begin(7, 10, 100), write(4, [1, 2]), send(4), deliver(0), write(6), send(6), deliver(1),
                       tick(10), tell(0), *[deliver(2)] * 7, *[got(p, 0) for p in range(7)])
        self.assertEqual(told[-7:], [[0, 0, 0, 0, 1, 2, 1, 2, 0, 1, 0]] * 7)

    def test_by_every_power_in_whatever_way_it_came(self):
        told = replies(begin(3, 10, 100), write(0, [1]), send(0), double(0), deliver(0), lose(1), tick(10),
                       deliver(0), ask(1), deliver(1), double(1), tell(0), lose(1), deliver(0), deliver(0), deliver(2),
                       *[got(p, 0) for p in range(3)])
        self.assertEqual(told[-3:], [[1, 1, 1, 0, 0]] * 3)

    def test_season_by_season(self):
        game = played(begin(2, 10, 9))
        for season in range(4):
            more(game, write(1, [season] * season), send(1), deliver(0), lose(0), tick(10), tell(season), deliver(0),
                 deliver(0))
        for p in (0, 1):
            self.assertEqual(more(game, *[got(p, season) for season in range(5)]),
                             [[0, 1, 0], [0, 1, 1, 1], [0, 1, 2, 2, 2], [0, 1, 3, 3, 3, 3], [-7]])

    def test_a_season_that_only_another_has_got(self):
        told = replies(begin(), tick(10), tell(0), deliver(0), got(0, 0), got(1, 0), deliver(0), got(1, 0))
        self.assertEqual(told[-4:], [[0, 0], [-7], [0], [0, 0]])

    def test_opened_but_not_brought_yet(self):
        self.assertEqual(replies(begin(), tick(10), got(0, 0), tell(0), got(0, 0))[2:], [[-7], [2], [-7]])

    def test_too_late_to_be_opened(self):
        told = replies(begin(), write(0, [1]), send(0), tick(10), deliver(0), deliver(0), got(0, 0))
        self.assertEqual(told[-1], [0, 0])

    def test_what_was_on_the_sheet_and_not_the_draft(self):
        told = replies(begin(), write(0, [1]), send(0), deliver(0), write(0, [2]), tick(10), tell(0), deliver(1),
                       got(0, 0))
        self.assertEqual(told[-1], [1, 1, 1, 0])

    def test_it_stays_whatever_comes_behind(self):
        told = replies(begin(), write(0, [1]), send(0), deliver(0), lose(0), tick(10), tell(0), deliver(0), deliver(0),
                       write(0, [2]), send(0), deliver(0), tick(10), stop(), got(0, 0), got(1, 0))
        self.assertEqual(told[-2:], [[1, 1, 1, 0]] * 2)

    def test_begin_takes_it_away(self):
        self.assertEqual(replies(begin(), tick(10), tell(0), deliver(0), got(0, 0), begin(), got(0, 0))[-3:],
                         [[0, 0], [0], [-7]])


if __name__ == "__main__":
    unittest.main()
