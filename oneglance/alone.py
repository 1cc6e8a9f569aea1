"""The deeds of a dealing, one at a time; a dealing done alone from a state, and the footprint that it leaves there."""


# What it holds is in tuples alone: going back to the beginning of a try is taking up the tuples of then.
class Doing:
    def __init__(self, world, dealing):
        self.wheel = world[1]
        self.held = (0, 0, 0, 0)
        self.puts = (None,) * world[0]
        # A part is (deeds, place of the next deed, the part around it, what a wait in it goes back to).
        self.part = onwards((dealing, 0, None, None))

    def deed(self):
        if self.part[1] >= len(self.part[0]):
            return None
        return self.part[0][self.part[1]]

    def asks(self):
        deed = self.deed()
        return deed[0] == "look" and self.puts[deed[2]] is None

    def hear(self, number):
        self.hold(self.deed()[1], number)
        self.go_behind(0)

    def do_deed(self):
        deed = self.deed()
        word = deed[0]
        if word == "wait":
            return self.goes_back()
        if word == "try":
            self.enter_try(deed[1], deed[2])
            return True
        left_out = 0
        if word == "look":
            self.hold(deed[1], self.puts[deed[2]])
        elif word == "put":
            self.puts = with_at(self.puts, deed[1], self.held[deed[2]])
        elif word == "set":
            self.hold(deed[1], deed[2])
        elif word == "plus":
            self.hold(deed[1], (self.held[deed[1]] + self.held[deed[2]]) % self.wheel)
        elif self.held[deed[1]] == 0:
            left_out = deed[2]
        self.go_behind(left_out)
        return True

    def hold(self, hand, number):
        self.held = with_at(self.held, hand, number)

    def part_behind(self, left_out):
        part = self.part
        return (part[0], part[1] + 1 + left_out, part[2], part[3])

    def go_behind(self, left_out):
        self.part = onwards(self.part_behind(left_out))

    def enter_try(self, one, other):
        behind = self.part_behind(0)
        # A wait in the other goes back to what a wait beside the try would.
        instead = onwards((other, 0, behind, behind[3]))
        self.part = onwards((one, 0, behind, (self.held, self.puts, instead)))

    def goes_back(self):
        back = self.part[3]
        if back is None:
            return False
        self.held = back[0]
        self.puts = back[1]
        self.part = back[2]
        return True

    def put_pairs(self):
        return [(box, number) for box, number in enumerate(self.puts) if number is not None]


def with_at(row, place, value):
    return row[:place] + (value,) + row[place + 1:]


def onwards(part):
    reached = part
    while reached[1] >= len(reached[0]) and reached[2] is not None:
        reached = reached[2]
    return reached


def goes_through(doing, state, looked):
    while doing.deed() is not None:
        if doing.asks():
            box = doing.deed()[2]
            # Never taken back: a look in an undone deed has swayed the way all the same.
            looked[box] = True
            doing.hear(state[box])
        elif not doing.do_deed():
            return False
    return True


def alone(world, dealing, state):
    doing = Doing(world, dealing)
    looked = {}
    if not goes_through(doing, state, looked):
        return ("waits", sorted(looked))
    reached = list(state)
    for box, number in doing.put_pairs():
        reached[box] = number
    return ("done", tuple(reached), doing.held)


def footprint(world, dealing, state):
    doing = Doing(world, dealing)
    looked = {}
    if not goes_through(doing, state, looked):
        return (sorted(looked), [])
    return (sorted(looked), doing.put_pairs())
