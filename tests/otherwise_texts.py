"""A second telling of which texts write dealings, and where a text goes wrong, to set beside the program's."""

from oneglance.dealings import is_dealing

PARTS = {"look": 2, "put": 2, "set": 2, "plus": 2, "leap": 2, "wait": 0}
FILLERS = ["0", "1"]


def built(words):
    """The dealing that words would write, whatever its numbers and sizes are, or None."""
    stack = [[]]
    rest = list(words)
    while rest:
        word = rest.pop(0)
        if word == "(":
            stack.append([])
        elif word == ")":
            if len(stack) < 2 or any(part == "try" for part in stack[-1]):
                return None
            run = tuple(stack.pop())
            stack[-1].append(run)
            if len(stack) > 1 and stack[-1][-3:-2] == ["try"]:
                one, other = stack[-1][-2:]
                stack[-1][-3:] = [("try", one, other)]
        elif word == "try":
            stack[-1].append("try")
        elif word in PARTS:
            numbers, rest = rest[:PARTS[word]], rest[PARTS[word]:]
            if any(not number.isdecimal() or str(int(number)) != number for number in numbers):
                return None
            stack[-1].append((word,) + tuple(int(number) for number in numbers))
        else:
            return None
    return stack[0][0] if len(stack) == 1 and len(stack[0]) == 1 else None


def read(world, words):
    dealing = built(words)
    return dealing if is_dealing(world, dealing) else None


def endings(words):
    """Rows of words, one of which brings these words to an end, if any does."""
    stack = []
    missing = 0
    for word in words:
        if missing:
            missing -= 1
        elif word == "(":
            stack.append(["("])
        elif word == ")":
            stack = stack[:-1]
            if stack and stack[-1][0] == "try":
                stack[-1].append("run")
                stack = stack[:-1] if len(stack[-1]) == 3 else stack
        elif word == "try":
            stack.append(["try"])
        else:
            missing = PARTS.get(word, 0)
    closing = []
    for place, frame in reversed(list(enumerate(stack))):
        closes_run = frame[0] == "("
        if closes_run:
            closing.append(")")
        else:
            # The part that stood open above this one, if there was one, is closed by now.
            there = len(frame) - 1 + (place + 1 < len(stack))
            closing += ["(", ")"] * (2 - there)
    if not words:
        closing = ["(", ")"]
    rows = [[]]
    for step in range(missing):
        rows = [row + [filler] for row in rows for filler in FILLERS]
    return [row + closing for row in rows]


def leads_on(world, words):
    return any(read(world, words + ending) is not None for ending in endings(words))


def first_wrong(world, text):
    """The dealing that a text writes, or the place that its refusal tells."""
    words = text.split(" ")
    dealing = read(world, words)
    if dealing is not None:
        return dealing
    for at in range(len(words)):
        if not leads_on(world, words[:at + 1]):
            return at
    return len(words)
