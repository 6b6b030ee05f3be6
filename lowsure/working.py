"""Machines at work. Several runs of the same code are done together, row by row; each stands at an index of its own."""


def do_set(work, row):
    target = work.registers[row[1]]
    number = row[2] & work.mask
    for at in work.busy:
        target[at] = number


def do_copy(work, row):
    target = work.registers[row[1]]
    one = work.registers[row[2]]
    for at in work.busy:
        target[at] = one[at]


def do_add(work, row):
    target = work.registers[row[1]]
    one = work.registers[row[2]]
    other = work.registers[row[3]]
    mask = work.mask
    for at in work.busy:
        target[at] = (one[at] + other[at]) & mask


def do_sub(work, row):
    target = work.registers[row[1]]
    one = work.registers[row[2]]
    other = work.registers[row[3]]
    mask = work.mask
    for at in work.busy:
        target[at] = (one[at] - other[at]) & mask


def do_mul(work, row):
    target = work.registers[row[1]]
    one = work.registers[row[2]]
    other = work.registers[row[3]]
    mask = work.mask
    for at in work.busy:
        target[at] = one[at] * other[at] & mask


def do_left(work, row):
    target = work.registers[row[1]]
    one = work.registers[row[2]]
    mask = work.mask
    for at in work.busy:
        target[at] = one[at] << 1 & mask


def do_right(work, row):
    target = work.registers[row[1]]
    one = work.registers[row[2]]
    for at in work.busy:
        target[at] = (one[at] >> 1) + (work.next_fill(at) << work.top)


def do_load(work, row):
    target = work.registers[row[1]]
    slot = work.slot(row[2])
    for at in work.busy:
        target[at] = slot[at]


def do_store(work, row):
    slot = work.slot(row[1])
    one = work.registers[row[2]]
    for at in work.busy:
        slot[at] = one[at]


def do_skip(work, row):
    tested = work.registers[row[1]]
    low = row[2] - 1
    gone = [at for at in work.busy if tested[at] & low == row[3]]
    if gone:
        work.busy = [at for at in work.busy if tested[at] & low != row[3]]
        work.wait(gone, row[4])


DOING = {
    "set": do_set,
    "copy": do_copy,
    "add": do_add,
    "sub": do_sub,
    "mul": do_mul,
    "left": do_left,
    "right": do_right,
    "load": do_load,
    "store": do_store,
    "skip": do_skip,
}


class Work:
    """The registers and slots of some runs, a list of numbers each: one number for each run."""

    def __init__(self, machine, starts):
        self.mask = (1 << machine.width) - 1
        self.top = machine.width - 1
        self.many = len(starts)
        self.registers = [self.zeros() for _ in range(machine.registers)]
        for at, start in enumerate(starts):
            for index, number in enumerate(start[0]):
                self.registers[index][at] = number & self.mask
        self.slots = {}
        self.fills = [start[1] for start in starts]
        self.rights = self.zeros()
        self.at = 0
        # The runs that do the next row, and for indexes of rows those that skipped all before them.
        self.busy = list(range(self.many))
        self.waiting = {}

    def zeros(self):
        """A number for each run, 0 at first."""
        return [0 for _ in range(self.many)]

    def do_row(self, at, row):
        """Does the row with an index in all runs that come to it; the rows before it are done."""
        self.at = at
        if at in self.waiting:
            self.busy = [*self.busy, *self.waiting.pop(at)]
        do = DOING[row[0]]
        do(self, row)

    def comes_to(self, at):
        """Whether any run does the row with an index; the rows before it are done."""
        return len(self.busy) > 0 or at in self.waiting

    def wait(self, runs, rows):
        """Lets runs skip so many rows behind this one."""
        to = self.at + 1 + rows
        self.waiting[to] = [*self.waiting.get(to, []), *runs]

    def next_fill(self, at):
        """The bit that the next right of a run puts in."""
        fills = self.fills[at]
        done = self.rights[at]
        self.rights[at] = done + 1
        return fills[done] if done < len(fills) else 0

    def slot(self, number):
        """The numbers in a slot."""
        if number not in self.slots:
            self.slots[number] = self.zeros()
        return self.slots[number]


def results(machine, code, starts):
    """A list of the numbers in register 0 at the end, for pairs of inputs and fills."""
    work = Work(machine, starts)
    for at, row in enumerate(code.rows):
        work.do_row(at, row)
    return work.registers[0]
