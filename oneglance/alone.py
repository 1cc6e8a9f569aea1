"""A dealing done alone from a state, and the footprint that it leaves there."""


class Doing:
    def __init__(self, world, state):
        self.wheel = world[1]
        self.first = state
        self.held = [0, 0, 0, 0]
        # Puts are kept beside the first state, so that undoing is giving back the puts of before.
        self.puts = {}
        self.looked = {}

    def look(self, box):
        if box in self.puts:
            return self.puts[box]
        # Never taken back: a look in an undone deed has swayed the way all the same.
        self.looked[box] = True
        return self.first[box]

    def run(self, deeds):
        place = 0
        while place < len(deeds):
            deed = deeds[place]
            place = place + 1
            if deed[0] == "leap":
                if self.held[deed[1]] == 0:
                    place = place + deed[2]
            elif not self.goes_on(deed):
                return False
        return True

    def goes_on(self, deed):
        word = deed[0]
        if word == "wait":
            return False
        if word == "try":
            return self.run_try(deed[1], deed[2])
        if word == "look":
            self.held[deed[1]] = self.look(deed[2])
        elif word == "put":
            self.puts[deed[1]] = self.held[deed[2]]
        elif word == "set":
            self.held[deed[1]] = deed[2]
        elif word == "plus":
            self.held[deed[1]] = (self.held[deed[1]] + self.held[deed[2]]) % self.wheel
        return True

    def run_try(self, one, other):
        held = list(self.held)
        puts = dict(self.puts)
        if self.run(one):
            return True
        self.held = held
        self.puts = puts
        return self.run(other)

    def looked_at(self):
        return sorted(self.looked)

    def state_behind(self):
        return tuple([self.puts.get(box, number) for box, number in enumerate(self.first)])


def alone(world, dealing, state):
    doing = Doing(world, state)
    if not doing.run(dealing):
        return ("waits", doing.looked_at())
    return ("done", doing.state_behind(), tuple(doing.held))


def footprint(world, dealing, state):
    doing = Doing(world, state)
    if not doing.run(dealing):
        return (doing.looked_at(), [])
    return (doing.looked_at(), sorted(doing.puts.items()))
