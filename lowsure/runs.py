"""What machines do with code."""

from lowsure.errors import InvalidCode
from lowsure.machine import registers_of
from lowsure.working import Work, results


def check_registers(machine, code):
    """Raises InvalidCode for the first row with a register that the machine does not have."""
    for at, row in enumerate(code.rows):
        if any([number >= machine.registers for number in registers_of(row)]):
            raise InvalidCode("register", at)


def run(machine, code, inputs, fills=()):
    """The number in register 0 at the end."""
    check_registers(machine, code)
    return results(machine, code, [(inputs, fills)])[0]


def trace(machine, code, inputs, fills=()):
    """Iterates over the rows that are done: the index, all registers directly after it, the number of rights so far."""
    check_registers(machine, code)
    work = Work(machine, [(inputs, fills)])
    for at, row in enumerate(code.rows):
        if work.comes_to(at):
            work.do_row(at, row)
            yield (at, tuple([column[0] for column in work.registers]), work.rights[0])
