"""Arithmetic modulo powers of two. A mask is such a power, less one."""


def inverse(odd, bits):
    """The low bits of the value whose product with an odd one is 1."""
    mask = (1 << bits) - 1
    # An odd number is its own inverse to three bits, and each round doubles the bits that are right.
    found = odd & mask
    right = 3
    while right < bits:
        found = found * (2 - odd * found) & mask
        right = right * 2
    return found


def power(base, times, mask):
    """The product of `times` factors `base`, modulo the mask's power of two."""
    found = 1
    square = base
    left = times
    while left > 0:
        if left & 1 == 1:
            found = found * square & mask
        square = square * square & mask
        left = left >> 1
    return found & mask


def same_bits(one, other, most):
    """To how many bits, at most so many, two numbers agree."""
    changed = one ^ other
    return most if changed == 0 else min(most, (changed & -changed).bit_length() - 1)
