"""Writes calls as the interface asks for them, and takes the answers apart again."""

from sealedorders.game import Game, answer_line, answers

LEAST = -9223372036854775808
GREATEST = 9223372036854775807


def begin(powers=2, span=10, room=5):
    return [0, powers, span, room]


def tick(n):
    return [1, n]


def write(p, text=()):
    return [2, p, len(text)] + list(text)


def clear(p):
    return [3, p]


def send(p):
    return [4, p]


def ask(p):
    return [5, p]


def deliver(i):
    return [6, i]


def lose(i):
    return [7, i]


def double(i):
    return [8, i]


def stop():
    return [9]


def start():
    return [10]


def tell(season):
    return [11, season]


def see(p):
    return [12, p]


def got(p, season):
    return [13, p, season]


def umpire():
    return [14]


def bag():
    return [15]


def all_but_begin(number):
    """Each call but begin, with this for each of its whole numbers."""
    return [tick(number), write(number), clear(number), send(number), ask(number), deliver(number), lose(number),
            double(number), stop(), start(), tell(number), see(number), got(number, number), umpire(), bag()]


def joined(calls):
    line = []
    for call in calls:
        line.extend(call)
    return line


def split(told):
    """The answers, one list each; a count that doesn't fit fails."""
    parts = []
    place = 0
    while place < len(told):
        end = place + 1 + told[place]
        if told[place] < 1 or end > len(told):
            raise AssertionError(f"the counts don't fit in {told!r}")
        parts.append(told[place + 1:end])
        place = end
    return parts


def replies(*calls):
    """All answers to these calls on a new game."""
    parts = split(answers(joined(calls)))
    if len(parts) != len(calls):
        raise AssertionError(f"{len(calls)} calls, {len(parts)} answers")
    return parts


def last_reply(*calls):
    return replies(*calls)[-1]


def played(*calls):
    """The game after these calls, none of which may be refused."""
    game = Game()
    for answer in more(game, *calls):
        if answer[0] < 0:
            raise AssertionError(f"refused: {answer!r}")
    return game


def more(game, *calls):
    """The answers to these calls on a game that goes on."""
    return split(answer_line(game, joined(calls)))


def written(text):
    """A text as the program keeps it and as it stands in an answer."""
    return (1, len(text)) + tuple(text)


def apart(answer):
    """What got answers, power by power; numbers that don't fit fail."""
    parts = []
    place = 0
    while place < len(answer):
        end = place + 1 if answer[place] == 0 else place + 2 + answer[place + 1]
        if answer[place] not in (0, 1) or end > len(answer):
            raise AssertionError(f"this is not what is written: {answer!r}")
        parts.append(tuple(answer[place:end]))
        place = end
    return parts


def image(game):
    """All that the game holds, to be compared with ==."""
    desk = game.umpire
    return {
        "game": (game.begun, game.span, game.room, game.now),
        "machines": [(m.season, m.version, m.acknowledged, m.draft, tuple(m.rows)) for m in game.machines],
        "umpire": (desk.on, desk.season, desk.deadline, tuple(desk.opened)),
        "sheets": [(sheet.version, sheet.written) for sheet in desk.sheets],
        "messages": [flat(message) for message in game.messages],
    }


def flat(message):
    return (message.kind, message.power, message.season, message.version, message.written, message.row)
