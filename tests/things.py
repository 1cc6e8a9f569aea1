"""Things of each kind that may be handed in where "of anything" is said, and woven dealings to try."""

import random

HUGE = 10 ** 50 - 1


def nested(kind, depth):
    thing = kind(())
    for step in range(depth - 1):
        thing = kind((thing,))
    return thing


ODD_PARTS = [True, False, None, "", "0", "look", (), (0,), [], [0], HUGE, -HUGE, -1,
             nested(tuple, 11), nested(list, 11)]

ANYTHING = ODD_PARTS + [0, 1, 2, 40, "try", "world", (1,), (1, 2), [1, 2], (1, 2, 3), (None, None), (True, 2),
                        ((), ()), [[]], ([],), (("look",),), ((("wait",),),), (["wait"],), ((["wait"],),),
                        nested(tuple, 12), nested(list, 12), ((True,), [False, "x", (None, [HUGE])])]


def woven_deed(source, world, tries):
    words = ["look", "look", "put", "put", "set", "plus", "leap", "wait"]
    word = source.choice(words + ["try", "try"] if tries else words)
    hand = source.randrange(4)
    box = source.randrange(world[0])
    return {
        "look": lambda: ("look", hand, box),
        "put": lambda: ("put", box, hand),
        "set": lambda: ("set", hand, source.randrange(world[1])),
        "plus": lambda: ("plus", hand, source.randrange(4)),
        "leap": lambda: ("leap", hand, source.randint(1, 3)),
        "wait": lambda: ("wait",),
        "try": lambda: ("try", woven_run(source, world, tries - 1, 4), woven_run(source, world, tries - 1, 3)),
    }[word]()


def woven_run(source, world, tries, most):
    return tuple(woven_deed(source, world, tries) for step in range(source.randint(0, most)))


def woven_dealings(seed, world, many):
    source = random.Random(seed)
    return [woven_run(source, world, 3, 6) for step in range(many)]


def woven_event(source, world, a, own, boxes):
    word = source.choice(["look", "look", "look", "put", "put", "done", "done", "fall"])
    box = source.randrange(world[0])
    if word == "put":
        own[box] = source.randrange(world[1])
        return ("put", a, box, own[box])
    if word == "look":
        # Mostly what is there, so that some logs are good for long.
        there = boxes[box] if source.random() < 0.8 else source.randrange(world[1])
        return ("look", a, box, own.get(box, there))
    if word == "done":
        for box in own:
            boxes[box] = own[box]
    return (word, a)


def woven_log(source, world, state, many, events):
    """A log of at most so many attempts and events; what its outer looks tell may come from nowhere."""
    log = []
    boxes = list(state)
    own = {}
    names = source.sample(range(200), many)
    for step in range(events):
        if names and (not own or source.random() < 0.3):
            a = names.pop()
            own[a] = {}
            log.append(("begin", a))
        elif own:
            a = source.choice(sorted(own))
            log.append(woven_event(source, world, a, own[a], boxes))
            if log[-1][0] in ("done", "fall"):
                own.pop(a)
    return log


def woven_logs(seed, world, state, times, many=5, events=20):
    source = random.Random(seed)
    return [woven_log(source, world, state, source.randint(0, many), source.randint(0, events)) for step in range(times)]
