"""A queue of things with costs, of which a cheapest one is taken next."""


# The costs stand once each and falling, so that the least one is taken off the end.
class Queue:
    def __init__(self):
        self.costs = []
        self.waiting = {}

    def is_done(self):
        return len(self.costs) == 0

    def put(self, cost, thing):
        if cost not in self.waiting:
            self.waiting[cost] = []
            self.costs.insert(self.place_of(cost), cost)
        self.waiting[cost].append(thing)

    def place_of(self, cost):
        low = 0
        high = len(self.costs)
        while low < high:
            middle = (low + high) // 2
            if self.costs[middle] > cost:
                low = middle + 1
            else:
                high = middle
        return low

    # A tuple (cost, thing).
    def take(self):
        cost = self.costs[-1]
        things = self.waiting[cost]
        thing = things.pop()
        if len(things) == 0:
            self.costs.pop()
            self.waiting.pop(cost)
        return (cost, thing)
