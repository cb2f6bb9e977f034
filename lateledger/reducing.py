"""Short vectors of integers (Lenstra, Lenstra, Lovasz 1982), reckoned with so many leading bits of each.

The vectors themselves are exact: only sums of integer multiples of each other are put in their places. What is
reckoned with leading bits alone is which ones, so it hangs on nothing but how short they come out.
"""

BITS = 128


def dot(one, other):
    """The sum of the products of two lists of integers."""
    return sum([left * right for left, right in zip(one, other)])


def shifted(number, bits):
    """The integer times two so many times; below 0: halved."""
    if bits >= 0:
        return number << bits
    return number >> -bits


def most_bits(vector):
    """The bits of the greatest integer of a vector."""
    return max([abs(part).bit_length() for part in vector])


class Reduction:
    """Independent vectors of integers, which it makes short. It changes.

    Of each vector it keeps the leading bits, and by how many they were shifted; PARTS and SQUARES are those of
    the vectors made upright to the ones ahead, of leading bits alone.
    """

    def __init__(self, vectors):
        self._vectors = [list(vector) for vector in vectors]
        many = len(vectors)
        self._tops = [[] for _ in vectors]
        self._shifts = [0 for _ in vectors]
        self._products = [[0 for _ in vectors] for _ in vectors]
        self._parts = [[] for _ in vectors]
        self._squares = [1 for _ in vectors]
        for at in range(many):
            self._cut(at)
        for at in range(many):
            self._multiply(at)

    def vectors(self):
        """The list of the vectors as they are now."""
        return [list(vector) for vector in self._vectors]

    def size(self, at):
        """The bits of the square of a vector made upright to those ahead of it."""
        return self._squares[at].bit_length() + 2 * self._shifts[at]

    def _cut(self, at):
        shift = most_bits(self._vectors[at]) - BITS
        self._shifts[at] = shift
        self._tops[at] = [shifted(part, -shift) for part in self._vectors[at]]

    def _multiply(self, at):
        top = self._tops[at]
        for other in range(len(self._tops)):
            product = dot(top, self._tops[other])
            self._products[at][other] = product
            self._products[other][at] = product

    def reduce(self, steps):
        """Make the vectors short, in at most so many steps: how many steps are left."""
        at = 0
        while at < len(self._vectors) and steps > 0:
            self._stand_upright(at)
            if at == 0:
                at = 1
                continue
            steps = steps - 1
            if self._takes_off_last(at):
                self._make_short(at)
                at = at + 1
            else:
                self._exchange(at)
                at = at - 1
        return steps

    def _stand_upright(self, at):
        products = self._products[at]
        told, parts = [], []
        for other in range(at):
            left = products[other] - (dot(self._parts[other], told) >> BITS)
            told.append(left)
            parts.append((left << BITS) // self._squares[other])
        self._parts[at] = parts
        self._squares[at] = max(products[at] - (dot(parts, told) >> BITS), 1)

    def _share(self, at, other):
        """How often the other, made upright, stands in a vector, times two as often as there are bits."""
        return shifted(self._parts[at][other], self._shifts[at] - self._shifts[other])

    def _takes_off_last(self, at):
        """Whether the vector is long enough beside the one ahead of it to stand behind it."""
        share = self._share(at, at - 1)
        share = share - (rounded_share(share) << BITS)
        ahead = self._squares[at - 1]
        upright = shifted(self._squares[at], 2 * (self._shifts[at] - self._shifts[at - 1]))
        return 8 * (upright + (share * share * ahead >> (2 * BITS))) >= 5 * ahead

    def _exchange(self, at):
        self._take_off(at, {at - 1: rounded_share(self._share(at, at - 1))})
        for rows in (self._vectors, self._tops, self._shifts, self._products):
            rows[at], rows[at - 1] = rows[at - 1], rows[at]
        for row in self._products:
            row[at], row[at - 1] = row[at - 1], row[at]

    def _make_short(self, at):
        tries = 8
        while tries > 0 and self._take_off(at, self._shares(at)):
            self._stand_upright(at)
            tries = tries - 1

    def _shares(self, at):
        """How often each one ahead is to be taken off a vector."""
        shares = [self._share(at, other) for other in range(at)]
        told = {}
        for other in reversed(range(at)):
            often = rounded_share(shares[other])
            if often != 0:
                told[other] = often
                for ahead in range(other):
                    shares[ahead] = shares[ahead] - often * self._share(other, ahead)
        return told

    def _take_off(self, at, shares):
        """Take off others, a dict to how often: whether the vector changes."""
        vector = self._vectors[at]
        changed = False
        for other, often in shares.items():
            if often != 0:
                vector = [part - often * less for part, less in zip(vector, self._vectors[other])]
                changed = True
        if changed:
            self._vectors[at] = vector
            self._cut(at)
            self._multiply(at)
        return changed


def rounded_share(share):
    """The integer next to a share."""
    return (share + (1 << (BITS - 1))) >> BITS
