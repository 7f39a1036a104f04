"""Wholes as digits, also where Python's own conversion refuses their length."""

PIECE_DIGITS = 60
PIECE = 10 ** 60


def digits_of(n):
    """The digits of a whole of at least zero."""
    pieces = []
    while n >= PIECE:
        n, low = divmod(n, PIECE)
        pieces.append(str(low).zfill(PIECE_DIGITS))
    pieces.append(str(n))
    return "".join(pieces[::-1])


def whole_of(digits):
    """The whole with these digits, one or more."""
    head = len(digits) % PIECE_DIGITS
    n = int(digits[:head]) if head > 0 else 0
    for at in range(head, len(digits), PIECE_DIGITS):
        n = n * PIECE + int(digits[at:at + PIECE_DIGITS])
    return n
