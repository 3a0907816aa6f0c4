"""The umpire turned off and on, what it tells, and what is seen of it."""

import unittest

from lines import (ask, bag, begin, clear, deliver, double, got, image, last_reply, lose, more, played, replies, see,
                   send, start, stop, tell, tick, umpire, write, written)

NOTHING = (0,)


class StopAndStart(unittest.TestCase):
    def test_stop_while_on_and_while_off(self):
        told = replies(begin(), umpire(), stop(), umpire(), stop(), umpire())
        self.assertEqual(told[1:], [[1, 0, 0, 10], [0], [0, 0, 0, 10], [-6], [0, 0, 0, 10]])

    def test_start_while_off_and_while_on(self):
        told = replies(begin(), start(), umpire(), stop(), start(), umpire(), start(), umpire())
        self.assertEqual(told[1:], [[-6], [1, 0, 0, 10], [0], [0], [1, 0, 0, 10], [-6], [1, 0, 0, 10]])

    def test_nothing_but_that_is_changed(self):
        game = played(begin(), write(0, [1]), send(0), deliver(0), tick(13), write(1, [2]), send(1), ask(0))
        before = image(game)
        more(game, stop())
        season, deadline, opened = before["umpire"][1:]
        self.assertEqual(image(game), {**before, "umpire": (False, season, deadline, opened)})
        self.assertEqual(more(game, start()), [[1]])
        self.assertEqual(image(game), before)

    def test_start_answers_the_season_that_goes_on_then(self):
        told = replies(begin(), tick(10), tick(10), stop(), start(), stop(), tick(10), start())
        self.assertEqual(told[3:], [[0], [2], [0], [30, 2], [3]])

    def test_begin_turns_it_on(self):
        told = replies(begin(), stop(), tick(25), begin(3, 7, 4), umpire(), start(), tick(7), umpire())
        self.assertEqual(told[3:], [[0], [1, 0, 0, 7], [-6], [7, 1], [1, 7, 1, 14]])
        game = played(begin(), write(0, [1]), send(0), deliver(0), tick(10), ask(1), stop(), begin(3, 7, 4))
        self.assertEqual(image(game), image(played(begin(3, 7, 4))))

    def test_a_begin_that_is_refused_leaves_it_off(self):
        self.assertEqual(replies(begin(), stop(), begin(powers=8), umpire())[2:], [[-2], [0, 0, 0, 10]])


class SeasonWhileOff(unittest.TestCase):
    def test_beyond_the_deadline_no_season_ends(self):
        told = replies(begin(), stop(), tick(9), tick(1), tick(25), umpire(), tick(1000000), umpire())
        self.assertEqual(told[2:], [[9, 0], [10, 0], [35, 0], [0, 35, 0, 10], [1000035, 0], [0, 1000035, 0, 10]])

    def test_then_just_one_ends_at_the_start(self):
        told = replies(begin(), stop(), tick(35), start(), umpire(), tick(0), tick(9), tick(1), umpire())
        self.assertEqual(told[2:], [[35, 0], [1], [1, 35, 1, 45], [35, 1], [44, 1], [45, 2], [1, 45, 2, 55]])

    def test_just_met_and_one_short_and_one_behind(self):
        for moments, seen in ((9, [1, 9, 0, 10]), (10, [1, 10, 1, 20]), (11, [1, 11, 1, 21])):
            told = replies(begin(), stop(), tick(moments), start(), umpire())
            self.assertEqual(told[2:], [[moments, 0], [seen[2]], seen])

    def test_ahead_of_the_deadline_nothing_ends(self):
        told = replies(begin(), tick(3), stop(), tick(4), start(), umpire(), tick(2), tick(1))
        self.assertEqual(told[4:], [[0], [1, 7, 0, 10], [9, 0], [10, 1]])

    def test_a_second_stop_and_start_ends_nothing_more(self):
        told = replies(begin(), stop(), tick(35), start(), stop(), start(), umpire())
        self.assertEqual(told[3:], [[1], [0], [1], [1, 35, 1, 45]])

    def test_stopped_again_and_again(self):
        told = replies(begin(), stop(), tick(20), start(), stop(), tick(20), start(), stop(), tick(9), start(),
                       umpire())
        self.assertEqual([told[3], told[6], told[9], told[10]], [[1], [2], [2], [1, 49, 2, 50]])

    def test_a_tick_too_late_is_refused_then_too(self):
        told = replies(begin(), stop(), *[tick(1000000)] * 100, tick(1), umpire(), start(), umpire())
        self.assertEqual(told[-4:], [[-3], [0, 100000000, 0, 10], [1], [1, 100000000, 1, 100000010]])


class Disk(unittest.TestCase):
    def test_sheets_of_before_are_opened_at_the_deadline(self):
        told = replies(begin(), write(0, [1, 2]), send(0), deliver(0), stop(), start(), tick(10), tell(0), deliver(1),
                       got(0, 0))
        self.assertEqual(told[-1], [1, 2, 1, 2, 0])

    def test_sheets_of_before_are_opened_at_the_start(self):
        game = played(begin(), write(0, [1, 2]), send(0), deliver(0), stop(), tick(30), start())
        self.assertEqual(game.umpire.opened, [(written([1, 2]), NOTHING)])
        self.assertEqual([(sheet.version, sheet.written) for sheet in game.umpire.sheets], [(0, NOTHING)] * 2)
        self.assertEqual(more(game, tell(0), deliver(1), got(0, 0)), [[2], [2], [1, 2, 1, 2, 0]])

    def test_versions_of_before_are_still_on_the_sheets(self):
        told = replies(begin(), write(0, [1]), send(0), write(0, [2]), send(0), deliver(1), stop(), start(), deliver(0),
                       bag(), tick(10), tell(0), deliver(2), got(0, 0))
        self.assertEqual(told[9], [2, 1, 0, 0, 2, 1, 0, 0, 2])
        self.assertEqual(told[-1], [1, 1, 2, 0])

    def test_opened_seasons_of_before(self):
        told = replies(begin(), write(1, [5]), send(1), deliver(0), tick(10), stop(), start(), tell(0), deliver(1),
                       got(0, 0), ask(1), deliver(2), bag())
        self.assertEqual(told[9], [0, 1, 1, 5])
        self.assertEqual(told[-1], [3, 1, 1, 0, 1, 3, 1, 0, 0, 3, 1, 0, 0])


class BroughtWhileOff(unittest.TestCase):
    def assert_taken_out_alone(self, *calls):
        game = played(*calls)
        before = image(game)
        self.assertEqual(more(game, deliver(0), bag()), [[0], [0]])
        self.assertEqual(image(game), {**before, "messages": []})

    def test_hand_and_ask_are_taken_out_and_nothing_else(self):
        for moments in (0, 10, 25):
            self.assert_taken_out_alone(begin(), write(0, [1]), send(0), tick(moments), stop())
            self.assert_taken_out_alone(begin(), write(0, [1]), send(0), stop(), tick(moments))
            self.assert_taken_out_alone(begin(), ask(1), tick(moments), stop())
            self.assert_taken_out_alone(begin(), ask(1), stop(), tick(moments))

    def test_hand_is_not_opened_later(self):
        told = replies(begin(), write(0, [1]), send(0), stop(), deliver(0), start(), tick(10), tell(0), deliver(0),
                       got(0, 0))
        self.assertEqual(told[-1], [0, 0])

    def test_hand_brought_when_it_is_on_again(self):
        told = replies(begin(), write(0, [1]), send(0), stop(), start(), deliver(0), bag())
        self.assertEqual(told[-2:], [[1], [1, 1, 0, 0, 1]])
        told = replies(begin(), write(0, [1]), send(0), stop(), tick(10), start(), deliver(0), bag())
        self.assertEqual(told[-3:], [[1], [1], [1, 3, 0, 0, 0]])

    def test_receipt_and_opened_come_through(self):
        told = replies(begin(), write(0, [1]), send(0), deliver(0), stop(), deliver(0), see(0))
        self.assertEqual(told[-2:], [[0], [0, 1, 1, 1, 1, 1, 1]])
        told = replies(begin(), tick(10), tell(0), stop(), deliver(1), see(1), got(1, 0))
        self.assertEqual(told[-3:], [[1], [1, 0, 0, 0], [0, 0]])

    def test_the_powers_go_on(self):
        told = replies(begin(), stop(), write(0, [1]), clear(1), send(0), ask(1), double(0), lose(1), see(0), see(1),
                       bag())
        self.assertEqual(told[2:], [[1], [1], [0], [0], [0], [0], [0, 1, 0, 1, 1, 1, 1], [0, 1, 0, 1, 0],
                                    [2, 0, 0, 0, 1, 0, 0, 0, 1]])


class Tell(unittest.TestCase):
    def test_room_for_all(self):
        told = replies(begin(3, 10, 100), tick(10), tell(0), bag())
        self.assertEqual(told[-2:], [[3], [3, 3, 0, 0, 0, 3, 1, 0, 0, 3, 2, 0, 0]])

    def test_room_for_just_all_for_some_and_for_none(self):
        for free in range(6):
            told = replies(begin(5, 10, 20), tick(10), *[ask(0)] * (20 - free), tell(0), bag())
            opened = []
            for p in range(free):
                opened += [3, p, 0, 0]
            self.assertEqual(told[-2:], [[free], [20] + [2, 0, 0, 0] * (20 - free) + opened])

    def test_room_is_less_than_the_powers(self):
        told = replies(begin(7, 10, 1), tick(10), tell(0), bag(), tell(0), bag())
        self.assertEqual(told[-4:], [[1], [1, 3, 0, 0, 0], [0], [1, 3, 0, 0, 0]])

    def test_again_and_again(self):
        told = replies(begin(2, 10, 5), tick(10), tell(0), tell(0), tell(0), tell(0))
        self.assertEqual(told[2:], [[2], [2], [1], [0]])

    def test_nothing_but_the_messages_is_changed(self):
        game = played(begin(), write(0, [1]), send(0), deliver(0), tick(10), ask(1))
        before = image(game)
        more(game, tell(0))
        after = image(game)
        self.assertEqual(after["messages"][:2], before["messages"])
        self.assertEqual({**after, "messages": before["messages"]}, before)

    def seasons(self):
        """A game in its third season; in the first 1 is opened of power 0, in the second 2."""
        game = played(begin(2, 10, 6), write(0, [1]), send(0), deliver(0), lose(0), tick(10), tell(0), deliver(0),
                      lose(0), write(0, [2]), send(0), deliver(0), lose(0), tick(10))
        self.assertEqual(more(game, see(0), see(1)), [[1, 2, 0, 1, 1, 1, 2], [0, 0, 0, 0]])
        return game

    def test_the_latest_season_an_earlier_one_and_one_that_is_not_opened(self):
        game = self.seasons()
        self.assertEqual(more(game, tell(2), tell(3), tell(0), tell(1)), [[-7], [-7], [2], [2]])
        self.assertEqual([(message.power, message.season, message.row) for message in game.messages],
                         [(0, 0, (written([1]), NOTHING)), (1, 0, (written([1]), NOTHING)),
                          (0, 1, (written([2]), NOTHING)), (1, 1, (written([2]), NOTHING))])

    def test_no_season_is_opened_yet(self):
        self.assertEqual(replies(begin(), tell(0), tick(9), tell(0), tick(1), tell(0))[1:],
                         [[-7], [9, 0], [-7], [10, 1], [2]])

    def test_a_season_that_would_be_over_but_for_the_stop(self):
        self.assertEqual(replies(begin(), stop(), tick(20), tell(0), start(), tell(0))[3:], [[-6], [1], [2]])

    def test_brought_to_a_machine_in_that_season(self):
        told = more(self.seasons(), tell(1), deliver(0), see(0), got(0, 1), got(0, 0))
        self.assertEqual(told, [[2], [1], [2, 2, 0, 0], [1, 1, 2, 0], [1, 1, 1, 0]])

    def test_brought_to_a_machine_ahead_of_it(self):
        told = more(self.seasons(), tell(0), deliver(0), see(0), got(0, 0), got(0, 1))
        self.assertEqual(told, [[2], [1], [1, 2, 0, 1, 1, 1, 2], [1, 1, 1, 0], [-7]])

    def test_brought_to_a_machine_behind_it(self):
        told = more(self.seasons(), tell(1), deliver(1), see(1), got(1, 0), got(1, 1))
        self.assertEqual(told, [[2], [1], [0, 0, 0, 0], [-7], [-7]])

    def test_brought_in_order_a_machine_catches_up(self):
        told = more(self.seasons(), tell(0), tell(1), deliver(1), deliver(2), see(1), got(1, 0), got(1, 1))
        self.assertEqual(told[4:], [[2, 0, 0, 0], [1, 1, 1, 0], [1, 1, 2, 0]])


class Seen(unittest.TestCase):
    def test_at_a_begun_game(self):
        for span in (1, 10, 1000000):
            self.assertEqual(replies(begin(span=span), umpire(), stop(), umpire())[1:],
                             [[1, 0, 0, span], [0], [0, 0, 0, span]])

    def test_behind_ticks(self):
        told = replies(begin(), tick(9), umpire(), tick(1), umpire(), tick(100), umpire())
        self.assertEqual(told[2::2], [[1, 9, 0, 10], [1, 10, 1, 20], [1, 110, 2, 120]])

    def test_the_last_deadline_lies_behind_the_last_moment(self):
        self.assertEqual(last_reply(begin(span=1000000), *[tick(1000000)] * 100, umpire()),
                         [1, 100000000, 100, 101000000])

    def test_behind_each_kind_of_message(self):
        brought = [begin(), tick(10), ask(0), deliver(0), deliver(0), write(0, [1]), send(0), deliver(0), deliver(0)]
        for end in range(2, len(brought) + 1):
            self.assertEqual(last_reply(*brought[:end], umpire()), [1, 10, 1, 20])
            self.assertEqual(last_reply(*brought[:end], stop(), umpire()), [0, 10, 1, 20])

    def test_messages_brought_while_it_is_off(self):
        told = replies(begin(), write(0), send(0), double(0), deliver(0), ask(0), tick(10), tell(0), stop(),
                       *[deliver(0)] * 5, bag(), umpire())
        self.assertEqual(told[-7:], [[4], [3], [2], [1], [0], [0], [0, 10, 1, 20]])


if __name__ == "__main__":
    unittest.main()
