"""One game of sealed orders: its state, its messages and the calls on it."""

NOT_BEGUN = -1
OUT_OF_RANGE = -2
TOO_LATE = -3
NO_DRAFT = -4
NO_ROOM = -5
# The umpire is off where it has to be on, or on where it has to be off.
SWITCHED_WRONG = -6
SEASON_NOT_THERE = -7

LEAST_POWERS = 2
MOST_POWERS = 7
MOST_SPAN = 1000000
MOST_ROOM = 100
MOST_TICK = 1000000
LAST_NOW = 100000000
LONGEST_TEXT = 120
GREATEST_SIGN = 255
LAST_SEASON = 1000000

BEGIN = 0
TICK = 1
WRITE = 2
CLEAR = 3
SEND = 4
ASK = 5
DELIVER = 6
LOSE = 7
DOUBLE = 8
STOP = 9
START = 10
TELL = 11
SEE = 12
GOT = 13
UMPIRE = 14
BAG = 15

# How many whole numbers stand behind each call's own, by its place; a row comes behind these.
NUMBERS_OF_CALL = (3, 1, 1, 1, 1, 1, 1, 1, 1, 0, 0, 1, 1, 2, 0, 0)

# The kinds of message; a message of the document's kind ask is a QUESTION here, as ASK is the call.
HAND = 0
RECEIPT = 1
QUESTION = 2
OPENED = 3

# What is written is kept as the numbers that tell it in an answer, so that a text
# with no numbers, nothing, and no draft at all (None) can't be taken for one another.
NOTHING = (0,)


class Machine:
    """What a power's own machine knows."""

    def __init__(self):
        self.season = 0
        self.version = 0
        self.acknowledged = 0
        self.draft = None
        self.rows = []


class Sheet:
    """What the umpire has from one power for the season that goes on."""

    def __init__(self):
        self.version = 0
        self.written = NOTHING


def blank_sheets(powers):
    return [Sheet() for power in range(powers)]


class Umpire:
    """The umpire and what is on its disk."""

    def __init__(self, powers, deadline):
        self.on = True
        self.season = 0
        self.deadline = deadline
        self.sheets = blank_sheets(powers)
        self.opened = []


class Message:
    """A message on the net; it is never changed once it is made."""

    def __init__(self, kind, power, season, version, written, row):
        self.kind = kind
        self.power = power
        self.season = season
        self.version = version
        self.written = written
        self.row = row


class Game:
    """A game, which is not begun at first."""

    def __init__(self):
        self.begun = False
        self.lay_out(0, 0, 0)

    def lay_out(self, powers, span, room):
        """Make all anew."""
        self.span = span
        self.room = room
        self.now = 0
        self.machines = [Machine() for power in range(powers)]
        self.umpire = Umpire(powers, span)
        self.messages = []


def within(number, least, most):
    return least <= number and number <= most


def is_text(numbers):
    return len(numbers) <= LONGEST_TEXT and all([within(number, 0, GREATEST_SIGN) for number in numbers])


def put(game, message):
    """Put the message behind the others, and say whether there was room; else it is lost."""
    if len(game.messages) >= game.room:
        return False
    game.messages.append(message)
    return True


def put_or_refuse(game, message):
    return [0] if put(game, message) else [NO_ROOM]


def put_opened(game, p, season):
    put(game, Message(OPENED, p, season, 0, NOTHING, game.umpire.opened[season]))


def end_season_if_due(game):
    umpire = game.umpire
    if umpire.on and umpire.deadline <= game.now:
        umpire.opened.append(tuple([sheet.written for sheet in umpire.sheets]))
        umpire.sheets = blank_sheets(len(umpire.sheets))
        umpire.season = umpire.season + 1
        umpire.deadline = game.now + game.span


def bring(game, message):
    if message.kind == HAND:
        bring_hand(game, message)
    elif message.kind == RECEIPT:
        bring_receipt(game, message)
    elif message.kind == QUESTION:
        bring_question(game, message)
    else:
        bring_opened(game, message)


def bring_hand(game, hand):
    umpire = game.umpire
    if not umpire.on:
        return
    if hand.season < umpire.season:
        put_opened(game, hand.power, hand.season)
        return
    sheet = umpire.sheets[hand.power]
    if hand.version > sheet.version:
        sheet.version = hand.version
        sheet.written = hand.written
    # An older hand is answered too: the receipt for the newer one may have been lost.
    put(game, Message(RECEIPT, hand.power, hand.season, sheet.version, NOTHING, ()))


def bring_receipt(game, receipt):
    machine = game.machines[receipt.power]
    if machine.season == receipt.season and receipt.version > machine.acknowledged:
        machine.acknowledged = receipt.version


def bring_question(game, question):
    umpire = game.umpire
    if umpire.on and question.season < umpire.season:
        put_opened(game, question.power, question.season)


def bring_opened(game, opened):
    machine = game.machines[opened.power]
    if machine.season == opened.season:
        machine.rows.append(opened.row)
        machine.season = machine.season + 1
        machine.draft = None


def begin(game, powers, span, room):
    game.lay_out(powers, span, room)
    game.begun = True
    return [0]


def tick(game, n):
    if game.now + n > LAST_NOW:
        return [TOO_LATE]
    game.now = game.now + n
    end_season_if_due(game)
    return [game.now, game.umpire.season]


def write(game, p, text):
    return new_draft(game.machines[p], tuple([1, len(text)] + text))


def clear(game, p):
    return new_draft(game.machines[p], NOTHING)


def new_draft(machine, written):
    machine.version = machine.version + 1
    machine.draft = written
    return [machine.version]


def send(game, p):
    machine = game.machines[p]
    if machine.draft is None:
        return [NO_DRAFT]
    return put_or_refuse(game, Message(HAND, p, machine.season, machine.version, machine.draft, ()))


def ask(game, p):
    return put_or_refuse(game, Message(QUESTION, p, game.machines[p].season, 0, NOTHING, ()))


def deliver(game, i):
    # It is taken out first: what it brings about may need its room.
    message = game.messages.pop(i)
    bring(game, message)
    return [len(game.messages)]


def lose(game, i):
    game.messages.pop(i)
    return [0]


def double(game, i):
    return put_or_refuse(game, game.messages[i])


def stop(game):
    if not game.umpire.on:
        return [SWITCHED_WRONG]
    game.umpire.on = False
    return [0]


def start(game):
    if game.umpire.on:
        return [SWITCHED_WRONG]
    game.umpire.on = True
    end_season_if_due(game)
    return [game.umpire.season]


def tell(game, season):
    if not game.umpire.on:
        return [SWITCHED_WRONG]
    if season >= len(game.umpire.opened):
        return [SEASON_NOT_THERE]
    before = len(game.messages)
    for p in range(len(game.machines)):
        put_opened(game, p, season)
    return [len(game.messages) - before]


def see(game, p):
    machine = game.machines[p]
    known = [machine.season, machine.version, machine.acknowledged]
    if machine.draft is None:
        return known + [0]
    return known + [1] + list(machine.draft)


def got(game, p, season):
    rows = game.machines[p].rows
    if season >= len(rows):
        return [SEASON_NOT_THERE]
    told = []
    for written in rows[season]:
        told.extend(written)
    return told


def show_umpire(game):
    umpire = game.umpire
    return [1 if umpire.on else 0, game.now, umpire.season, umpire.deadline]


def show_bag(game):
    told = [len(game.messages)]
    for message in game.messages:
        told.extend([message.kind, message.power, message.season, message.version])
    return told


def fits(game, call, numbers, text):
    """Whether each argument of the call is in its range."""
    if call in (STOP, START, UMPIRE, BAG):
        return True
    first = numbers[0]
    if call == BEGIN:
        rest = within(numbers[1], 1, MOST_SPAN) and within(numbers[2], 1, MOST_ROOM)
        return within(first, LEAST_POWERS, MOST_POWERS) and rest
    if call == TICK:
        return within(first, 0, MOST_TICK)
    if call == TELL:
        return within(first, 0, LAST_SEASON)
    if call in (DELIVER, LOSE, DOUBLE):
        return within(first, 0, len(game.messages) - 1)
    is_power = within(first, 0, len(game.machines) - 1)
    if call == WRITE:
        return is_power and is_text(text)
    if call == GOT:
        return is_power and within(numbers[1], 0, LAST_SEASON)
    return is_power


def make_call(game, call, numbers, text):
    """Make a call whose arguments are in their ranges on a game that is begun, or begin it."""
    if call == BEGIN:
        return begin(game, numbers[0], numbers[1], numbers[2])
    if call == TICK:
        return tick(game, numbers[0])
    if call == WRITE:
        return write(game, numbers[0], text)
    if call == CLEAR:
        return clear(game, numbers[0])
    if call == SEND:
        return send(game, numbers[0])
    if call == ASK:
        return ask(game, numbers[0])
    if call == DELIVER:
        return deliver(game, numbers[0])
    if call == LOSE:
        return lose(game, numbers[0])
    if call == DOUBLE:
        return double(game, numbers[0])
    if call == STOP:
        return stop(game)
    if call == START:
        return start(game)
    if call == TELL:
        return tell(game, numbers[0])
    if call == SEE:
        return see(game, numbers[0])
    if call == GOT:
        return got(game, numbers[0], numbers[1])
    if call == UMPIRE:
        return show_umpire(game)
    # No other calls come, so what is left is bag.
    return show_bag(game)


def answer_call(game, call, numbers, text):
    if call != BEGIN and not game.begun:
        return [NOT_BEGUN]
    if not fits(game, call, numbers, text):
        return [OUT_OF_RANGE]
    return make_call(game, call, numbers, text)


def answer_line(game, calls):
    """Make the calls of the list on the game, and give back their answers, each behind its count."""
    told = []
    place = 0
    while place < len(calls):
        call = calls[place]
        end = place + 1 + NUMBERS_OF_CALL[call]
        numbers = calls[place + 1:end]
        text = []
        if call == WRITE:
            first = end + 1
            end = first + calls[end]
            text = calls[first:end]
        answer = answer_call(game, call, numbers, text)
        told.append(len(answer))
        told.extend(answer)
        place = end
    return told


def answers(calls):
    """Answer a list of calls on one new game."""
    return answer_line(Game(), calls)
