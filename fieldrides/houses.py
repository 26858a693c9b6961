"""Houses that hold copies of one record, write on them, and send each other letters."""

from fieldrides.errors import BadNumber, CannotLand, NoHouse, NoLetter, NotKept
from fieldrides.forests import check_fair
from fieldrides.letters import least_letter, receive
from fieldrides.lots import lot_end
from fieldrides.tools import check_record
from fieldrides.writes import blocked_fields, written


class House:
    """The copy and the kept copy of a house, with the writes and letters that stand behind each of them."""

    def __init__(self, start):
        self.record = start
        self.heard = ()
        self.kept = start
        self.kept_heard = ()
        # The letters that the copy contains since they were delivered, and those that the kept copy contains.
        self.arrived = {}
        self.secured = {}


class Letter:
    """A letter, with the copy that its sender had and the writes that it had heard when it sent the letter."""

    def __init__(self, sender, receiver, told, record, heard):
        self.sender = sender
        self.receiver = receiver
        self.told = told
        self.record = record
        self.heard = heard


class Web:
    """Houses with their writes, their letters, and what each house knows of each other one."""

    def __init__(self, forest, start, houses):
        check_fair(forest)
        check_record(forest.fields, start)
        self.forest = forest
        self.houses = [House(start) for _ in range(houses)]
        self.floors = [[start] * houses for _ in range(houses)]
        self.records = []
        self.letters = []
        self.calls = []

    def write(self, house, changes):
        """Make a write on the copy of the house and return its number."""
        writer = self.house_at(house)
        blocked = blocked_fields(self.forest, writer.record, changes)
        if blocked:
            raise CannotLand(blocked[0])
        number = len(self.records)
        writer.record = written(self.forest, writer.record, changes)
        writer.heard = writer.heard + (number,)
        self.records.append(writer.record)
        self.calls.append(("write", house, tuple(sorted(list(changes.items())))))
        return number

    def send(self, house, to):
        """Make a letter from one house to another and return its number."""
        sender = self.house_at(house)
        told = least_letter(self.forest, self.floor_of(house, to), sender.record)
        self.letters.append(Letter(house, to, told, sender.record, sender.heard))
        self.calls.append(("send", house, to))
        return len(self.letters) - 1

    def deliver(self, number):
        """Let the house to which the letter goes receive it."""
        letter = self.letter_at(number)
        receiver = self.houses[letter.receiver]
        receiver.record = receive(self.forest, receiver.record, letter.told)
        receiver.heard = tuple(sorted(set(receiver.heard + letter.heard)))
        receiver.arrived[number] = True
        self.calls.append(("deliver", number))

    def keep(self, house):
        """Make the copy of the house its kept copy."""
        keeper = self.house_at(house)
        keeper.kept = keeper.record
        keeper.kept_heard = keeper.heard
        keeper.secured.update(keeper.arrived)
        self.calls.append(("keep", house))

    def fall(self, house):
        """Make the kept copy of the house its copy."""
        fallen = self.house_at(house)
        fallen.record = fallen.kept
        fallen.heard = fallen.kept_heard
        fallen.arrived = {}
        self.calls.append(("fall", house))

    def acknowledge(self, number):
        """Tell the sender of the letter that it has arrived for good."""
        letter = self.letter_at(number)
        if number not in self.houses[letter.receiver].secured:
            raise NotKept(number)
        floors = self.floors[letter.sender]
        floors[letter.receiver] = lot_end(self.forest, [floors[letter.receiver], letter.record])
        self.calls.append(("acknowledge", number))

    def copy_of(self, house):
        """The copy of the house."""
        return self.house_at(house).record

    def kept_of(self, house):
        """The kept copy of the house."""
        return self.house_at(house).kept

    def floor_of(self, house, to):
        """The record that the house knows the other one to hold for good."""
        self.house_at(house)
        self.house_at(to)
        if to == house:
            raise NoHouse(to)
        return self.floors[house][to]

    def heard_by(self, house):
        """The ascending tuple of the numbers of the writes that the house has heard."""
        return self.house_at(house).heard

    def record_of(self, number):
        """The written record of a write."""
        if number < 0 or number >= len(self.records):
            raise BadNumber(number)
        return self.records[number]

    def letter_of(self, number):
        """The sending house, the receiving house and the letter."""
        letter = self.letter_at(number)
        return letter.sender, letter.receiver, letter.told

    def journal(self):
        """The list of all calls so far that could change the web and raised no error."""
        return list(self.calls)

    def house_at(self, number):
        """The house with this number."""
        if number < 0 or number >= len(self.houses):
            raise NoHouse(number)
        return self.houses[number]

    def letter_at(self, number):
        """The letter with this number."""
        if number < 0 or number >= len(self.letters):
            raise NoLetter(number)
        return self.letters[number]


def repeat(web, call):
    """Make a call of a journal on the web."""
    name = call[0]
    if name == "write":
        web.write(call[1], dict(call[2]))
    elif name == "send":
        web.send(call[1], call[2])
    elif name == "deliver":
        web.deliver(call[1])
    elif name == "keep":
        web.keep(call[1])
    elif name == "fall":
        web.fall(call[1])
    else:
        web.acknowledge(call[1])


def replayed(forest, start, houses, journal):
    """A new web after the calls of the journal, made one after the other."""
    web = Web(forest, start, houses)
    for call in journal:
        repeat(web, call)
    return web
