"""A message once more on the net, and what is seen of the messages there."""

import unittest

from lines import (ask, bag, begin, clear, deliver, double, flat, got, image, last_reply, lose, more, played, replies,
                   see, send, start, stop, tell, tick, umpire, write)

HAND = [0, 0, 0, 1]
RECEIPT = [1, 0, 0, 1]
ASK = [2, 0, 0, 0]
OPENED = [3, 0, 0, 0]

# How each kind of message comes to be alone on the net.
ALONE = (
    (HAND, [begin(), write(0, [7, 8]), send(0)]),
    (RECEIPT, [begin(), write(0, [7, 8]), send(0), deliver(0)]),
    (ASK, [begin(), ask(0)]),
    (OPENED, [begin(), tick(10), ask(0), deliver(0)]),
)


class Double(unittest.TestCase):
    def test_each_kind(self):
        for message, calls in ALONE:
            game = played(*calls)
            before = image(game)
            self.assertEqual(more(game, double(0), bag()), [[0], [2] + message + message])
            before["messages"] = before["messages"] * 2
            self.assertEqual(image(game), before)

    def test_one_by_one_up_to_just_room(self):
        for message, calls in ALONE:
            for room in (1, 2, 5, 100):
                anew = [[0, 2, 10, room]] + calls[1:]
                told = replies(*anew, *[double(0)] * room, bag())
                self.assertEqual(told[len(anew):], [[0]] * (room - 1) + [[-5], [room] + message * room])

    def test_it_is_put_behind_the_others(self):
        for i in range(3):
            game = played(begin(4), write(0, [5]), send(0), ask(1), clear(2), send(2))
            before = [flat(message) for message in game.messages]
            more(game, double(i))
            self.assertEqual([flat(message) for message in game.messages], before + [before[i]])

    def test_a_double_may_be_doubled(self):
        told = replies(begin(3), ask(1), ask(0), double(0), double(2), bag())
        self.assertEqual(told[-1], [4, 2, 1, 0, 0, 2, 0, 0, 0, 2, 1, 0, 0, 2, 1, 0, 0])

    def test_it_goes_while_the_umpire_is_off(self):
        self.assertEqual(replies(begin(), ask(0), stop(), double(0), bag())[-2:], [[0], [2] + ASK + ASK])

    def test_one_is_lost_and_the_other_stays(self):
        for i in (0, 1):
            for message, calls in ALONE:
                self.assertEqual(replies(*calls, double(0), lose(i), bag())[-2:], [[0], [1] + message])

    def test_one_is_brought_and_the_other_stays(self):
        after = ((HAND, [[2], [2] + HAND + RECEIPT]), (RECEIPT, [[1], [1] + RECEIPT]), (ASK, [[1], [1] + ASK]),
                 (OPENED, [[1], [1] + OPENED]))
        for (message, calls), (same, told) in zip(ALONE, after):
            self.assertEqual(message, same)
            for i in (0, 1):
                self.assertEqual(replies(*calls, double(0), deliver(i), bag())[-2:], told)


class BothBrought(unittest.TestCase):
    def test_hand(self):
        told = replies(*ALONE[0][1], double(0), deliver(0), deliver(0), bag())
        self.assertEqual(told[-3:], [[2], [2], [2] + RECEIPT + RECEIPT])

    def test_hand_still_holds_what_was_written_then(self):
        told = replies(begin(), write(0, [1]), send(0), double(0), write(0, [2]), double(0), deliver(2), deliver(0),
                       deliver(0), tick(10), tell(0), deliver(3), got(0, 0))
        self.assertEqual(told[-1], [1, 1, 1, 0])

    def test_hand_that_comes_again_behind_a_newer_one(self):
        told = replies(begin(), write(0, [1]), send(0), double(0), deliver(0), write(0, [2]), send(0), deliver(2),
                       deliver(0), bag())
        self.assertEqual(told[-1], [3, 1, 0, 0, 1, 1, 0, 0, 2, 1, 0, 0, 2])
        told = replies(begin(), write(0, [1]), send(0), double(0), deliver(0), write(0, [2]), send(0), deliver(2),
                       deliver(0), tick(10), tell(0), deliver(3), got(0, 0))
        self.assertEqual(told[-1], [1, 1, 2, 0])

    def test_hand_that_comes_again_when_the_season_is_over(self):
        told = replies(*ALONE[0][1], double(0), deliver(0), deliver(1), tick(10), deliver(0), bag())
        self.assertEqual(told[-2:], [[1], [1] + OPENED])

    def test_receipt(self):
        told = replies(*ALONE[1][1], double(0), deliver(0), see(0), deliver(0), see(0))
        self.assertEqual(told[-4:], [[1], [0, 1, 1, 1, 1, 2, 7, 8], [0], [0, 1, 1, 1, 1, 2, 7, 8]])

    def test_ask(self):
        told = replies(begin(), ask(0), double(0), tick(10), deliver(0), deliver(0), bag())
        self.assertEqual(told[-3:], [[2], [2], [2] + OPENED + OPENED])

    def test_opened(self):
        told = replies(*ALONE[3][1], double(0), deliver(0), write(0, [4]), see(0), deliver(0), see(0), got(0, 1))
        self.assertEqual(told[-6:], [[1], [1], [1, 1, 0, 1, 1, 1, 4], [0], [1, 1, 0, 1, 1, 1, 4], [-7]])


class Bag(unittest.TestCase):
    def test_empty(self):
        self.assertEqual(replies(begin(), bag(), stop(), bag(), start(), bag()), [[0], [0], [0], [0], [0], [0]])
        self.assertEqual(last_reply(begin(7, 1, 100), bag()), [0])

    def test_each_kind_while_the_umpire_is_on_and_while_it_is_off(self):
        for message, calls in ALONE:
            self.assertEqual(last_reply(*calls, bag()), [1] + message)
            self.assertEqual(last_reply(*calls, stop(), bag()), [1] + message)

    def test_power_season_and_version_of_each_kind(self):
        told = replies(begin(3, 10, 6), tick(10), ask(2), deliver(0), deliver(0), write(2), write(2), clear(2), send(2),
                       double(0), ask(2), deliver(0), tell(0), bag())
        self.assertEqual(told[-1], [6, 0, 2, 1, 3, 2, 2, 1, 0, 1, 2, 1, 3, 3, 0, 0, 0, 3, 1, 0, 0, 3, 2, 0, 0])

    def test_the_receipt_of_an_older_hand_tells_the_newer_version(self):
        told = replies(begin(), write(1), send(1), write(1), send(1), deliver(1), deliver(0), bag())
        self.assertEqual(told[-1], [2, 1, 1, 0, 2, 1, 1, 0, 2])

    def test_what_is_lost_or_brought_is_not_there_any_more(self):
        told = replies(begin(4), ask(0), ask(1), ask(2), lose(1), bag(), deliver(0), bag(), lose(0), bag())
        self.assertEqual([told[5], told[7], told[9]], [[2, 2, 0, 0, 0, 2, 2, 0, 0], [1, 2, 2, 0, 0], [0]])

    def test_a_hundred(self):
        told = replies(begin(7, 10, 100), *[ask(i % 7) for i in range(100)], bag())
        expected = [100]
        for i in range(100):
            expected += [2, i % 7, 0, 0]
        self.assertEqual(told[-1], expected)

    def test_no_text_is_seen_there(self):
        seen = {tuple(last_reply(begin(), write(0, text), send(0), double(0), deliver(1), bag()))
                for text in ([], [1], [255] * 120)}
        self.assertEqual(seen, {(2, 0, 0, 0, 1, 1, 0, 0, 1)})

    def test_begin_takes_all_out(self):
        self.assertEqual(replies(begin(), ask(0), ask(1), begin(), bag(), umpire())[-2:], [[0], [1, 0, 0, 10]])


if __name__ == "__main__":
    unittest.main()
