"""Writes formulas in other ways, which are the same, and counts what stands in them."""

from matrixforms.errors import AnswerError, MeetError
from matrixforms.formulas import Blocks, Eye, Zero


def square(one):
    return one.rows == one.columns


class Rewriting:
    """Rewrites with the numbers that a random source draws."""

    def __init__(self, random):
        self.random = random

    def rewritten(self, one):
        """A formula that is the same, made of rewritten parts."""
        ways = getattr(self, "ways_of_" + one.kind, self.no_ways)(one) + self.ways_of_all(one)
        if self.random.random() < 0.7:
            self.random.shuffle(ways)
            for way in ways:
                try:
                    return way()
                except (AnswerError, MeetError):
                    continue
        return self.with_parts(one)

    def with_parts(self, one):
        parts = [self.rewritten(part) for part in one.parts]
        if one.kind == "scaled":
            return parts[0] * one.number
        if one.kind == "power":
            return parts[0] ** one.exponent
        if one.kind == "corner":
            return parts[0][one.row, one.column]
        if one.kind == "blocks":
            width = len(one.table[0])
            return Blocks(tuple(tuple(parts[k:k + width]) for k in range(0, len(parts), width)))
        return type(one)(*parts) if parts else one

    def no_ways(self, one):
        return []

    def ways_of_all(self, one):
        ways = [
            lambda: self.with_parts(one) + Zero(one.rows, one.columns), lambda: self.with_parts(one) * Eye(one.columns),
            lambda: self.rewritten(one.transposed).transposed, lambda: one * 3 - self.with_parts(one) * 2,
            lambda: -self.rewritten(-one), lambda: one + (self.with_parts(one) - one),
        ]
        if len(one.rows) == len(one.columns) == 1:
            ways.append(lambda: Blocks(((Zero(one.rows, one.rows), self.with_parts(one)),))[0, 1])
        if square(one):
            ways.append(lambda: self.rewritten(one.inverse()).inverse())
            ways.append(lambda: self.with_parts(one) ** 1)
        return ways

    def ways_of_sum(self, one):
        a, b = one.parts
        return [lambda: self.rewritten(b) + self.rewritten(a), lambda: self.rewritten(a) - self.rewritten(-b)]

    def ways_of_difference(self, one):
        a, b = one.parts
        return [lambda: self.rewritten(a + -b), lambda: -(self.rewritten(b) - a)]

    def ways_of_product(self, one):
        a, b = one.parts
        ways = [lambda: self.rewritten(b.transposed * a.transposed).transposed]
        if a.kind in ("sum", "difference"):
            ways += [lambda: type(a)(self.rewritten(a.parts[0] * b), self.rewritten(a.parts[1] * b))] * 2
        if b.kind in ("sum", "difference"):
            ways += [lambda: type(b)(self.rewritten(a * b.parts[0]), self.rewritten(a * b.parts[1]))] * 2
        if a.kind == "product":
            ways += [lambda: self.rewritten(a.parts[0]) * self.rewritten(a.parts[1] * b)]
        if a.kind == "scaled":
            ways += [lambda: self.rewritten(a.parts[0] * b) * a.number]
        return ways

    def ways_of_transposed(self, one):
        a = one.parts[0]
        if a.kind in ("sum", "difference"):
            return [lambda: type(a)(self.rewritten(a.parts[0].transposed), self.rewritten(a.parts[1].transposed))]
        if a.kind == "product":
            return [lambda: self.rewritten(a.parts[1].transposed) * self.rewritten(a.parts[0].transposed)]
        if a.kind in ("inverse", "power"):
            return [lambda: a.parts[0].transposed.inverse() if a.kind == "inverse" else self.rewritten(a.parts[0].transposed) ** a.exponent]
        if a.kind == "transposed":
            return [lambda: self.rewritten(a.parts[0])]
        if a.kind == "letter" and a.symmetry != "plain":
            return [lambda: a if a.symmetry == "symmetric" else -a] * 3
        return []

    def ways_of_inverse(self, one):
        a = one.parts[0]
        ways = [lambda: one * a * self.rewritten(one)]
        if a.kind == "product":
            ways += [lambda: self.rewritten(a.parts[1].inverse()) * self.rewritten(a.parts[0].inverse())] * 2
        if a.kind == "sum":
            # inv(A + B) = inv(A) - inv(A + B) * B * inv(A), if inv(A) is anchored.
            ways += [lambda: a.parts[0].inverse() - one * self.rewritten(a.parts[1]) * a.parts[0].inverse()] * 2
        if a.kind == "inverse":
            ways += [lambda: self.rewritten(a.parts[0])]
        return ways

    def ways_of_power(self, one):
        a = one.parts[0]
        if one.exponent == 1:
            return [lambda: self.rewritten(a)]
        return [lambda: self.rewritten(a ** (one.exponent - 1)) * self.rewritten(a), lambda: a * self.rewritten(a ** (one.exponent - 1))]

    def ways_of_corner(self, one):
        a = one.parts[0]
        ways = [lambda: self.rewritten(a.transposed)[one.column, one.row].transposed]
        if a.kind in ("sum", "difference"):
            ways += [lambda: type(a)(self.rewritten(a.parts[0][one.row, one.column]), self.rewritten(a.parts[1][one.row, one.column]))]
        if a.kind == "blocks" and all(len(part.rows) == len(part.columns) == 1 for part in a.parts):
            ways += [lambda: self.rewritten(a.table[one.row][one.column])]
        return ways


def all_in(one):
    """The formula and all that stands in it, each as often as it stands there."""
    found = [one]
    for part in one.parts:
        found += all_in(part)
    return found
