"""Chains of conditions: the least sums of those with so many conditions from one to another."""


class Chains:
    """Conditions on goods, and the least sums of all their chains of few conditions.

    A chain from one to the same or to another one that leaves out no sum below 0 has no more conditions than there
    are goods and None.
    """

    def __init__(self, goods, conditions):
        self._places = [None, *goods]
        self._conditions = conditions
        self._many = len(self._places)
        self._least_sums = [{(place, place): 0 for place in self._places}]
        for _ in range(self._many):
            self._least_sums.append(self._longer(self._least_sums[-1]))

    def _longer(self, sums):
        """The least sums of chains with one condition more at their beginning."""
        told = {}
        for one, other, most in self._conditions:
            for last in self._places:
                if (other, last) in sums:
                    total = most + sums[(other, last)]
                    if (one, last) not in told or total < told[(one, last)]:
                        told[(one, last)] = total
        return told

    def has_ring(self):
        """Whether there is a ring."""
        return self.ring() is not None

    def ring(self):
        """Of the rings with the fewest conditions the least list; None without one."""
        for many in range(1, self._many + 1):
            for position, (one, other, most) in enumerate(self._conditions):
                if (other, one) in self._least_sums[many - 1] and most + self._least_sums[many - 1][(other, one)] < 0:
                    return self._least_list((one, one), many, -1)
        return None

    def tightest(self, first, second):
        """The least sum of the chains from one to another; None without a chain. Only where there is no ring."""
        found = [sums[(first, second)] for sums in self._least_sums if (first, second) in sums]
        return min(found) if len(found) > 0 else None

    def chain(self, first, second):
        """Of the chains with the least sum and the fewest conditions the least list; None without a chain."""
        least = self.tightest(first, second)
        if least is None:
            return None
        counts = [many for many, sums in enumerate(self._least_sums) if sums.get((first, second), least + 1) == least]
        return self._least_list((first, second), counts[0], least)

    def _least_list(self, ends, many, most_sum):
        """The least list of so many positions from the one to the other end whose sum is at most so much."""
        place, last = ends
        told, total = [], 0
        for left in reversed(range(many)):
            for position, (one, other, most) in enumerate(self._conditions):
                if len(told) + left < many and one == place and (other, last) in self._least_sums[left]:
                    if total + most + self._least_sums[left][(other, last)] <= most_sum:
                        told.append(position)
                        place, total = other, total + most
        return told

    def move(self):
        """A dict from the goods to changes of INTEGERS that keep all conditions. Only where there is no ring."""
        changes = {place: 0 for place in self._places}
        for _ in range(self._many):
            for one, other, most in self._conditions:
                changes[one] = min(changes[one], changes[other] + most)
        return {good: changes[good] - changes[None] for good in self._places[1:]}
