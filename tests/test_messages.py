"""Writing, sending, asking, and what each kind of message does where it is brought."""

import unittest

from lines import (ask, begin, clear, deliver, flat, image, lose, more, played, replies, send, stop, tell, tick,
                   write, written)
from sealedorders.game import Message

NOTHING = (0,)
HAND = 0
RECEIPT = 1
ASK = 2
OPENED = 3


def net(game):
    return [flat(message) for message in game.messages]


def sheet(game, p):
    return (game.umpire.sheets[p].version, game.umpire.sheets[p].written)


def machine(game, p):
    kept = game.machines[p]
    return (kept.season, kept.version, kept.acknowledged, kept.draft, kept.rows)


class Drafts(unittest.TestCase):
    def test_versions_count_writing_and_taking_back_by_power(self):
        told = replies(begin(), write(0, [1]), clear(0), write(1), write(0), clear(1), clear(1))
        self.assertEqual(told, [[0], [1], [2], [1], [3], [2], [3]])

    def test_the_draft_is_what_was_written_last(self):
        game = played(begin(), write(0, [1]), write(0, [2, 3]))
        self.assertEqual(machine(game, 0), (0, 2, 0, written([2, 3]), []))
        more(game, clear(0))
        self.assertEqual(machine(game, 0), (0, 3, 0, NOTHING, []))

    def test_the_edges_of_a_text_are_kept_whole(self):
        for text in ([], [0], [255], [0] * 120, [255] * 120, list(range(120))):
            game = played(begin(), write(1, text), send(1), deliver(0), tick(10))
            self.assertEqual(game.umpire.opened[0][1], written(text))

    def test_nothing_is_sent(self):
        self.assertEqual(net(played(begin(), write(0, [1]), clear(1))), [])

    def test_no_draft_at_first_but_nothing_and_an_empty_text_are_drafts(self):
        self.assertEqual(replies(begin(), send(0), clear(0), send(0), write(1), send(1)),
                         [[0], [-4], [1], [0], [1], [0]])


class Sending(unittest.TestCase):
    def test_hand_holds_what_the_power_has_then(self):
        game = played(begin(), write(1, [1]), write(1, [2]), send(1), clear(1), send(1), send(1))
        first = (HAND, 1, 0, 2, written([2]), ())
        second = (HAND, 1, 0, 3, NOTHING, ())
        self.assertEqual(net(game), [first, second, second])

    def test_ask_holds_the_season_of_the_machine(self):
        game = played(begin(), ask(1), tick(10), ask(1), deliver(0), deliver(1), ask(1))
        self.assertEqual(net(game), [(ASK, 1, 0, 0, NOTHING, ()), (ASK, 1, 1, 0, NOTHING, ())])

    def test_messages_stand_in_the_order_they_were_put(self):
        game = played(begin(), write(0), ask(1), send(0), ask(0))
        self.assertEqual([message[:2] for message in net(game)], [(ASK, 1), (HAND, 0), (ASK, 0)])


class Taking(unittest.TestCase):
    def test_lose_takes_out_that_one_alone(self):
        for i in range(3):
            game = played(begin(4), ask(0), ask(1), ask(2))
            before = image(game)
            self.assertEqual(more(game, lose(i)), [[0]])
            before["messages"].pop(i)
            self.assertEqual(image(game), before)

    def test_deliver_takes_out_that_one_alone(self):
        for i in range(3):
            game = played(begin(4), ask(0), ask(1), ask(2))
            before = image(game)
            self.assertEqual(more(game, deliver(i)), [[2]])
            before["messages"].pop(i)
            self.assertEqual(image(game), before)

    def test_deliver_answers_how_many_there_are_then(self):
        told = replies(begin(), write(0), send(0), ask(1), deliver(0), deliver(1), deliver(0))
        self.assertEqual(told[-3:], [[2], [1], [0]])

    def test_what_a_message_brings_about_is_put_behind_the_others(self):
        game = played(begin(3), write(0), send(0), ask(1), ask(2), deliver(0))
        self.assertEqual([message[:2] for message in net(game)], [(ASK, 1), (ASK, 2), (RECEIPT, 0)])

    def test_what_a_message_brings_about_may_take_its_room(self):
        told = replies(begin(room=1), write(0), send(0), deliver(0), send(0), deliver(0), send(0))
        self.assertEqual(told[-4:], [[1], [-5], [0], [0]])

    def test_what_is_put_while_there_is_no_room_is_lost(self):
        game = played(begin(room=2), tick(10), ask(1))
        self.assertEqual(more(game, tell(0)), [[1]])
        self.assertEqual(net(game), [(ASK, 1, 0, 0, NOTHING, ()), (OPENED, 0, 0, 0, NOTHING, (NOTHING, NOTHING))])


class Hand(unittest.TestCase):
    def two_hands(self, first, then):
        """The game after a hand of version 1 and one of version 2, brought in this order."""
        game = played(begin(), write(0, [1]), send(0), write(0, [2]), send(0), deliver(first))
        more(game, deliver(then))
        return game

    def test_greater_version(self):
        game = self.two_hands(0, 0)
        self.assertEqual(sheet(game, 0), (2, written([2])))
        self.assertEqual(net(game), [(RECEIPT, 0, 0, 1, NOTHING, ()), (RECEIPT, 0, 0, 2, NOTHING, ())])

    def test_lesser_version(self):
        game = self.two_hands(1, 0)
        self.assertEqual(sheet(game, 0), (2, written([2])))
        self.assertEqual(net(game), [(RECEIPT, 0, 0, 2, NOTHING, ())] * 2)

    def test_same_version(self):
        game = played(begin(), write(0, [1]), send(0), send(0), deliver(0), deliver(0))
        self.assertEqual(sheet(game, 0), (1, written([1])))
        self.assertEqual(net(game), [(RECEIPT, 0, 0, 1, NOTHING, ())] * 2)

    def test_same_version_keeps_what_is_on_the_sheet(self):
        game = played(begin(), write(0, [1]), send(0), send(0), deliver(0))
        game.umpire.sheets[0].written = NOTHING
        more(game, deliver(0))
        self.assertEqual(sheet(game, 0), (1, NOTHING))

    def test_taken_back(self):
        game = played(begin(), write(0, [1]), send(0), clear(0), send(0), deliver(0), deliver(0))
        self.assertEqual(sheet(game, 0), (2, NOTHING))

    def test_only_the_sheet_of_that_power(self):
        game = played(begin(3), write(1, [1]), send(1), deliver(0))
        self.assertEqual([sheet(game, p) for p in range(3)], [(0, NOTHING), (1, written([1])), (0, NOTHING)])

    def test_the_machine_is_told_nothing_yet(self):
        game = played(begin(), write(0, [1]), send(0), deliver(0))
        self.assertEqual(machine(game, 0), (0, 1, 0, written([1]), []))

    def test_for_a_season_that_is_over_puts_opened(self):
        game = played(begin(), write(1, [5]), send(1), deliver(0), deliver(0), write(0, [1]), send(0), tick(10))
        self.assertEqual(more(game, deliver(0)), [[1]])
        self.assertEqual(net(game), [(OPENED, 0, 0, 0, NOTHING, (NOTHING, written([5])))])
        self.assertEqual([sheet(game, p) for p in range(2)], [(0, NOTHING)] * 2)

    def test_for_a_season_long_over_puts_the_row_of_that_season(self):
        game = played(begin(), write(0, [1]), send(0), send(0), deliver(0), deliver(1), tick(10), tick(10), tick(10))
        more(game, deliver(0))
        self.assertEqual(net(game), [(OPENED, 0, 0, 0, NOTHING, (written([1]), NOTHING))])

    def test_while_the_umpire_is_off(self):
        for moments in (0, 10):
            game = played(begin(), write(0, [1]), send(0), tick(moments), stop())
            before = image(game)
            self.assertEqual(more(game, deliver(0)), [[0]])
            before["messages"] = []
            self.assertEqual(image(game), before)


class Receipt(unittest.TestCase):
    def test_in_that_season(self):
        game = played(begin(), write(0, [1]), write(0, [2]), send(0), deliver(0), deliver(0))
        self.assertEqual(machine(game, 0), (0, 2, 2, written([2]), []))
        self.assertEqual(machine(game, 1), (0, 0, 0, None, []))

    def test_lesser_does_not_lessen(self):
        game = played(begin(), write(0), send(0), deliver(0), write(0), send(0), deliver(1), deliver(1))
        self.assertEqual(machine(game, 0)[2], 2)
        more(game, deliver(0))
        self.assertEqual(machine(game, 0)[2], 2)

    def test_greater_grows(self):
        game = played(begin(), write(0), send(0), deliver(0), write(0), send(0), deliver(1), deliver(0))
        self.assertEqual(machine(game, 0)[2], 1)
        more(game, deliver(0))
        self.assertEqual(machine(game, 0)[2], 2)

    def test_in_another_season(self):
        game = played(begin(), write(0), send(0), deliver(0), tick(10), ask(0), deliver(1), deliver(1))
        self.assertEqual(net(game), [(RECEIPT, 0, 0, 1, NOTHING, ())])
        self.assertEqual(more(game, deliver(0)), [[0]])
        self.assertEqual(machine(game, 0)[:3], (1, 1, 0))

    def test_the_umpire_has_gone_on_but_the_machine_has_not(self):
        game = played(begin(), write(0), send(0), deliver(0), tick(10), deliver(0))
        self.assertEqual(machine(game, 0)[:3], (0, 1, 1))

    def test_for_a_season_ahead_of_the_machine(self):
        game = played(begin(), write(0))
        game.messages.append(Message(RECEIPT, 0, 1, 1, NOTHING, ()))
        more(game, deliver(0))
        self.assertEqual(machine(game, 0)[:3], (0, 1, 0))

    def test_acknowledged_stays_in_the_next_season(self):
        game = played(begin(), write(0), send(0), deliver(0), deliver(0), tick(10), ask(0), deliver(0), deliver(0))
        self.assertEqual(machine(game, 0)[:3], (1, 1, 1))


class Ask(unittest.TestCase):
    def test_for_a_season_that_is_over(self):
        game = played(begin(), write(1, [4]), send(1), deliver(0), lose(0), tick(10), ask(0))
        self.assertEqual(more(game, deliver(0)), [[1]])
        self.assertEqual(net(game), [(OPENED, 0, 0, 0, NOTHING, (NOTHING, written([4])))])

    def test_for_a_season_that_goes_on(self):
        game = played(begin(), ask(0), tick(9))
        self.assertEqual(more(game, deliver(0)), [[0]])
        self.assertEqual(net(game), [])

    def test_sent_while_it_went_on_and_brought_when_it_is_over(self):
        self.assertEqual(replies(begin(), ask(0), tick(10), deliver(0))[-1], [1])

    def test_while_the_umpire_is_off(self):
        for moments in (0, 10):
            game = played(begin(), ask(0), tick(moments), stop())
            before = image(game)
            self.assertEqual(more(game, deliver(0)), [[0]])
            before["messages"] = []
            self.assertEqual(image(game), before)


class Opened(unittest.TestCase):
    def test_in_that_season(self):
        game = played(begin(), write(0, [1]), send(0), deliver(0), deliver(0), tick(10), ask(0), deliver(0))
        self.assertEqual(more(game, deliver(0)), [[0]])
        self.assertEqual(machine(game, 0), (1, 1, 1, None, [(written([1]), NOTHING)]))
        self.assertEqual(machine(game, 1), (0, 0, 0, None, []))

    def test_in_another_season(self):
        game = played(begin(), ask(0), ask(0), tick(10), deliver(0), deliver(0), deliver(0), write(0, [7]))
        before = image(game)
        self.assertEqual(more(game, deliver(0)), [[0]])
        before["messages"] = []
        self.assertEqual(image(game), before)

    def test_for_a_season_ahead_of_the_machine(self):
        game = played(begin(), tick(10), tick(10), write(0, [7]))
        before = image(game)
        self.assertEqual(more(game, tell(1), deliver(0), deliver(0)), [[2], [1], [0]])
        self.assertEqual(image(game), before)

    def test_what_the_machine_does_next(self):
        told = replies(begin(), write(0, [1]), send(0), tick(10), deliver(0), deliver(0),
                       send(0), write(0, [2]), send(0), ask(0), deliver(1), deliver(0))
        self.assertEqual(told[4:], [[1], [0], [-4], [2], [0], [0], [1], [1]])

    def test_the_next_hand_is_for_the_next_season(self):
        game = played(begin(), write(0, [1]), tick(10), ask(0), deliver(0), deliver(0), write(0, [2]), send(0))
        self.assertEqual(net(game), [(HAND, 0, 1, 2, written([2]), ())])
        more(game, deliver(0))
        self.assertEqual(sheet(game, 0), (2, written([2])))

    def test_a_machine_catches_up_season_by_season(self):
        game = played(begin(), tick(10), tick(10), tick(10))
        for season in range(3):
            self.assertEqual(more(game, ask(0), deliver(0), deliver(0)), [[0], [1], [0]])
            self.assertEqual(game.machines[0].season, season + 1)
        self.assertEqual(more(game, ask(0), deliver(0)), [[0], [0]])

    def test_an_umpire_that_is_off_does_not_matter(self):
        game = played(begin(), tick(10), ask(0), deliver(0), stop(), deliver(0))
        self.assertEqual(game.machines[0].season, 1)

    def test_behind_the_times_machine_hands_for_its_own_season(self):
        told = replies(begin(), tick(10), write(0, [1]), send(0), deliver(0), send(0), deliver(0), send(0))
        self.assertEqual(told, [[0], [10, 1], [1], [0], [1], [0], [1], [-4]])


if __name__ == "__main__":
    unittest.main()
