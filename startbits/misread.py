"""Texts that show an offset that is not good: what papers and the numbers at risk have in common."""

from startbits.signals import sent_text
from startbits.walk import reads


def is_misread(shape, receiver, length, phase, numbers):
    """Whether a text that is sent without gaps from tick 0 is not read right at a phase."""
    return not reads(shape, receiver, phase, sent_text(shape, length, numbers, 0), numbers)


def misread_pair(shape, receiver, length, offset):
    """A text of two numbers that is not read right at an offset that is not good.

    If it stands behind others that are read right, the receiver is idle ahead of it and its start
    look has this same offset: so no text that ends with it is read right there.
    """
    greatest = (1 << shape[0]) - 1
    # Of the first few numbers nearly always two will do: their levels are as unlike as can be.
    for numbers in ([0, 1, greatest], list(range(greatest + 1))):
        for one in numbers:
            for other in numbers:
                if is_misread(shape, receiver, length, offset, [one, other]):
                    return (one, other)
    return None
