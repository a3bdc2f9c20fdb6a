"""Rings among things of which each leads to some others; links are a dict of lists."""


# The things that are in no ring and lead to none, as a dict, each behind those that it leads to.
def ringless(links):
    done = {}
    rest = list(links)
    going = True
    while going:
        left = []
        for thing in rest:
            if all([other in done for other in links[thing]]):
                done[thing] = True
            else:
                left.append(thing)
        going = len(left) < len(rest)
        rest = left
    return done


# Each thing that is not done leads to another such, so a walk among them comes to where it has been.
def ring_in(links):
    done = ringless(links)
    rest = [thing for thing in links if thing not in done]
    if len(rest) == 0:
        return None
    walk = []
    thing = rest[0]
    while thing not in walk:
        walk.append(thing)
        thing = [other for other in links[thing] if other not in done][0]
    return walk[walk.index(thing):]
