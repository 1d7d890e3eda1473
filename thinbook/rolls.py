"""Rolls: the readings of one name, the young ones whole, the others in the heaps of their cells."""

from thinbook.edges import cell_at, edges_at, greater
from thinbook.errors import NoNumber
from thinbook.heaps import heap_of, poured


class Roll:
    """The readings of one name by a rule, on a day, with edges."""

    def __init__(self, rule, day):
        self.kept_rule = rule
        self.kept_day = day
        self.kept_edges = edges_at(rule, day)
        # Of (time, value): how many.
        self.whole_ones = {}
        # Of (start, width): a heap.
        self.cell_heaps = {}

    def put(self, time, value, many=1):
        """Whether the reading is kept; one that is gone is not."""
        if many < 1:
            raise NoNumber("many is from 1 on")
        cell = cell_at(self.kept_rule, self.kept_edges, time)
        if cell is None:
            return False
        if cell[1] == 0:
            self.whole_ones[(time, value)] = self.whole_ones.get((time, value), 0) + many
        else:
            self.pour_into_cell(cell, heap_of([(value, many)]))
        return True

    def pour_into_cell(self, cell, heap):
        if cell in self.cell_heaps:
            self.cell_heaps[cell] = poured(self.cell_heaps[cell], heap)
        else:
            self.cell_heaps[cell] = heap

    def take_heap(self, start, heap):
        """Pours in a heap of another roll, whose edges are nowhere greater."""
        # By such edges all times of the heap's own cell have the cell of its start.
        cell = cell_at(self.kept_rule, self.kept_edges, start)
        if cell is not None:
            self.pour_into_cell(cell, heap)

    def take_all(self, roll):
        """Takes in what another roll keeps, whose edges are nowhere greater."""
        for time, value, many in roll.young():
            self.put(time, value, many)
        for row in roll.heaps():
            self.take_heap(row[0], row[2:])

    def rule(self):
        return self.kept_rule

    def day(self):
        return self.kept_day

    def edges(self):
        return list(self.kept_edges)

    def young(self):
        """Readings (time, value, many), sorted, all of one time and value in one."""
        return [key + (self.whole_ones[key],) for key in sorted(self.whole_ones)]

    def heaps(self):
        """Tuples (start, width, many, total, least, greatest), sorted by start."""
        return [cell + self.cell_heaps[cell] for cell in sorted(self.cell_heaps)]


def begun(rule, day, edges):
    """A roll without readings, with the greater ones of these edges and of the rule's on that day."""
    roll = Roll(rule, day)
    roll.kept_edges = greater(roll.kept_edges, edges)
    return roll
