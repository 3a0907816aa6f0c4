"""The list of calls that is handed in and the list of answers that is given back."""

import contextlib
import io
import unittest

from lines import (all_but_begin, ask, bag, begin, clear, deliver, double, got, joined, lose, see, send, start, stop,
                   tell, tick, umpire, write)
from sealedorders.game import answers


class SealedList(list):
    """A list that fails at once when it is changed, be it for a while alone."""

    def refuse(self, *args, **kwargs):
        raise AssertionError("the list handed in was changed")

    append = extend = insert = remove = pop = clear = sort = reverse = refuse
    __setitem__ = __delitem__ = __iadd__ = __imul__ = refuse


# Calls on several games, one begun behind another, each with its count and its answer.
SHORT_STORY = (
    (tick(1), [1, -1]),
    (begin(8, 10, 5), [1, -2]),
    (begin(2, 10, 2), [1, 0]),
    (write(0, [1, 2, 3]), [1, 1]),
    (send(0), [1, 0]),
    (deliver(0), [1, 1]),
    (deliver(0), [1, 0]),
    (clear(1), [1, 1]),
    (send(1), [1, 0]),
    (ask(1), [1, 0]),
    (send(0), [1, -5]),
    (tick(10), [2, 10, 1]),
    (deliver(0), [1, 2]),
    (deliver(1), [1, 1]),
    (send(1), [1, -4]),
    (lose(0), [1, 0]),
    (lose(0), [1, -2]),
    (begin(7, 1, 100), [1, 0]),
    (write(6, [0] * 120), [1, 1]),
    (write(6, [0] * 121), [1, -2]),
    (write(6), [1, 2]),
    (tick(0), [2, 0, 0]),
    (tick(1000000), [2, 1000000, 1]),
    (send(6), [1, 0]),
    (send(6), [1, 0]),
    (deliver(1), [1, 2]),
    (deliver(1), [1, 1]),
    (send(6), [1, -4]),
    (begin(2, 1000000, 1), [1, 0]),
    (deliver(0), [1, -2]),
    (tick(999999), [2, 999999, 0]),
    (clear(0), [1, 1]),
    (ask(0), [1, 0]),
    (tick(1), [2, 1000000, 1]),
    (deliver(0), [1, 1]),
    (deliver(0), [1, 0]),
    (send(0), [1, -4]),
)


def long_story():
    """Two hundred calls, all sixteen among them, each with its count and its answer."""
    rows = [(call, [1, -1]) for call in all_but_begin(0)]
    rows += [(begin(7, 10, 100), [1, 0]), (umpire(), [4, 1, 0, 0, 10]), (bag(), [1, 0])]
    rows += [(call, [1, -2]) for call in all_but_begin(-1) if len(call) > 1]
    rows += [(see(p), [4, 0, 0, 0, 0]) for p in range(7)]
    rows += [(write(p, [p] * p), [1, 1]) for p in range(7)]
    rows += [(see(p), [6 + p, 0, 1, 0, 1, 1, p] + [p] * p) for p in range(7)]
    rows += [(clear(6), [1, 2]), (see(6), [5, 0, 2, 0, 1, 0]), (stop(), [1, 0]), (stop(), [1, -6])]
    rows += [(send(p), [1, 0]) for p in range(7)]
    rows += [(start(), [1, 0]), (start(), [1, -6]), (tell(0), [1, -7]), (double(2), [1, 0]), (lose(7), [1, 0])]
    rows += [(bag(), [29, 7] + joined([[0, p, 0, 2 if p == 6 else 1] for p in range(7)]))]
    rows += [(deliver(0), [1, 7]) for p in range(7)]
    rows += [(bag(), [29, 7] + joined([[1, p, 0, 2 if p == 6 else 1] for p in range(7)]))]
    rows += [(deliver(0), [1, left]) for left in (6, 5, 4, 3, 2, 1, 0)]
    rows += [(see(p), [6 + p, 0, 1, 1, 1, 1, p] + [p] * p) for p in range(6)]
    rows += [(see(6), [5, 0, 2, 2, 1, 0]), (stop(), [1, 0]), (tick(25), [2, 25, 0]), (umpire(), [4, 0, 25, 0, 10])]
    rows += [(tell(0), [1, -6]), (start(), [1, 1]), (umpire(), [4, 1, 25, 1, 35]), (tell(1), [1, -7])]
    rows += [(ask(3), [1, 0]), (deliver(0), [1, 1]), (tell(0), [1, 7]), (got(3, 0), [1, -7])]
    rows += [(bag(), [33, 8, 3, 3, 0, 0] + joined([[3, p, 0, 0] for p in range(7)]))]
    rows += [(deliver(0), [1, left]) for left in (7, 6, 5, 4, 3, 2, 1, 0)]
    rows += [(see(p), [4, 1, 2 if p == 6 else 1, 2 if p == 6 else 1, 0]) for p in range(7)]
    opened = joined([[1, p] + [p] * p for p in range(6)]) + [0]
    rows += [(got(p, 0), [len(opened)] + opened) for p in range(7)]
    rows += [(got(p, 1), [1, -7]) for p in range(7)]
    rows += [(send(0), [1, -4]), (tick(9), [2, 34, 1]), (tick(1), [2, 35, 2]), (begin(2, 5, 1), [1, 0])]
    rows += [(umpire(), [4, 1, 0, 0, 5]), (ask(1), [1, 0]), (double(0), [1, -5]), (bag(), [5, 1, 2, 1, 0, 0])]
    rows += [(begin(2, 1, 100), [1, 0])]
    for season in range(30):
        rows += [(tick(1), [2, season + 1, season + 1]), (tell(season), [1, 2])]
    rows += [(bag(), [241, 60] + joined([[3, 0, season, 0, 3, 1, season, 0] for season in range(30)]))]
    return rows


def story():
    return joined([call for call, answer in long_story()])


class Answers(unittest.TestCase):
    def test_each_answer_behind_its_count(self):
        line = joined([call for call, answer in SHORT_STORY])
        self.assertEqual(answers(line), joined([answer for call, answer in SHORT_STORY]))

    def test_each_of_two_hundred_answers_behind_its_count(self):
        rows = long_story()
        self.assertEqual(len(rows), 200)
        self.assertEqual({call[0] for call, answer in rows}, set(range(16)))
        told = answers(story())
        place = 0
        for number, (call, answer) in enumerate(rows):
            self.assertEqual(answer[0], len(answer) - 1, (number, call))
            self.assertEqual(told[place:place + len(answer)], answer, (number, call))
            place += len(answer)
        self.assertEqual(place, len(told))

    def test_each_beginning_of_the_list_is_answered_alike(self):
        for end in range(1, len(SHORT_STORY) + 1):
            line = joined([call for call, answer in SHORT_STORY[:end]])
            self.assertEqual(answers(line), joined([answer for call, answer in SHORT_STORY[:end]]))

    def test_plain_numbers_in_a_plain_list(self):
        told = answers(story())
        self.assertIs(type(told), list)
        self.assertEqual({type(number) for number in told}, {int})

    def test_numbers_of_a_text_are_not_taken_for_calls(self):
        line = joined([begin(), write(0, [0, 2, 10, 5]), write(0, [1, 5]), write(0, [2] * 150), clear(0)])
        self.assertEqual(answers(line), [1, 0, 1, 1, 1, 2, 1, -2, 1, 3])

    def test_two_hundred_calls(self):
        line = joined([begin()] + [write(0, [9] * 70)] * 199)
        self.assertEqual(answers(line), [1, 0] + joined([[1, version] for version in range(1, 200)]))

    def test_sixteen_thousand_numbers(self):
        line = joined([begin()] + [write(0, [9] * 120)] * 129 + [write(0, [9] * 126)])
        self.assertEqual(len(line), 16000)
        self.assertEqual(answers(line), [1, 0] + joined([[1, version] for version in range(1, 130)]) + [1, -2])

    def test_long_answers(self):
        text = list(range(136, 256))
        first = [begin(2, 1, 9), write(1, text), send(1), deliver(0), lose(0), tick(1), ask(0), deliver(0), deliver(0)]
        told = answers(joined(first + [got(0, 0)] * 191))
        self.assertEqual(told[-191 * 124:], ([123, 0, 1, 120] + text) * 191)

    def test_one_call(self):
        self.assertEqual(answers([0, 2, 1, 1]), [1, 0])
        for call in all_but_begin(0):
            self.assertEqual(answers(call), [1, -1])


class NothingLeftBehind(unittest.TestCase):
    def test_the_list_handed_in_is_the_same_afterwards(self):
        line = story()
        answers(line)
        self.assertEqual(line, story())

    def test_the_list_handed_in_is_not_changed_for_a_while_either(self):
        self.assertEqual(answers(SealedList(story())), answers(story()))

    def test_the_list_given_back_is_another(self):
        line = story()
        self.assertIsNot(answers(line), line)

    def test_a_second_time_gives_the_same(self):
        line = story()
        first = answers(line)
        kept = list(first)
        first.clear()
        self.assertEqual(answers(line), kept)

    def test_no_game_goes_on_in_the_next_list(self):
        answers(joined([begin(), write(0, [1]), send(0)]))
        self.assertEqual(answers(joined([send(0), begin(), send(0), write(0), deliver(0)])),
                         [1, -1, 1, 0, 1, -4, 1, 1, 1, -2])

    def test_nothing_is_printed(self):
        out = io.StringIO()
        with contextlib.redirect_stdout(out), contextlib.redirect_stderr(out):
            answers(story())
        self.assertEqual(out.getvalue(), "")


if __name__ == "__main__":
    unittest.main()
