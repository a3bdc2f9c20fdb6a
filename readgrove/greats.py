"""Great whole numbers, divided and written in figures, however many these are.

Python refuses to write a number of more than some thousand figures, and its division takes a time that grows by the
square of how long the numbers are; so great ones are divided by halves, and written piece by piece.
"""

FEW_BITS = 4000
PIECE_FIGURES = 64


def all_bits(count):
    return (1 << count) - 1


def low_bits(number, count):
    return number & all_bits(count)


# A size from that one on that can be halved until few bits are left.
def halving_size(size):
    parts = 1
    while parts * FEW_BITS < size:
        parts = parts * 2
    return size + -size % parts


# A tuple (quotient, rest), the quotient having half as many bits as the divisor. It is guessed by the divisor's upper
# half: such a guess is never too small, and too great by two at most, as the divisor's first bit is set.
def divided_by_upper(number, divisor, half):
    upper = divisor >> half
    ahead = number >> half
    if ahead >> half >= upper:
        guess = (all_bits(half), ahead - all_bits(half) * upper)
    else:
        guess = divided_by_size(ahead, upper, half)
    quotient = guess[0]
    rest = (guess[1] << half) + low_bits(number, half) - quotient * low_bits(divisor, half)
    while rest < 0:
        quotient = quotient - 1
        rest = rest + divisor
    return (quotient, rest)


# The divisor has just so many bits, a halving size; the quotient has no more.
def divided_by_size(number, divisor, size):
    if size <= FEW_BITS or number < divisor:
        return divmod(number, divisor)
    half = size // 2
    high = divided_by_upper(number >> half, divisor, half)
    low = divided_by_upper((high[1] << half) + low_bits(number, half), divisor, half)
    return ((high[0] << half) + low[0], low[1])


# The tuple that divmod tells of a number from 0 on and a divisor from 1 on.
def divided(number, divisor):
    bits = divisor.bit_length()
    if bits <= FEW_BITS or number < divisor:
        return divmod(number, divisor)
    size = halving_size(bits)
    shift = size - bits
    shifted = number << shift
    quotient = 0
    rest = 0
    for k in range(shifted.bit_length() // size, -1, -1):
        block = low_bits(shifted >> (k * size), size)
        told = divided_by_size((rest << size) + block, divisor << shift, size)
        quotient = (quotient << size) + told[0]
        rest = told[1]
    return (quotient, rest >> shift)


# Powers of ten, the first one of a piece's figures, each other the square of the one before it; the last one's square
# is above the number.
def squared_powers(number):
    powers = [10 ** 64]
    while 2 * (powers[-1].bit_length() - 1) < number.bit_length():
        powers.append(powers[-1] * powers[-1])
    return powers


# The figures of a number from 0 on.
def figures_of(number):
    pieces = [number]
    for power in reversed(squared_powers(number)):
        halves = []
        for piece in pieces:
            halves.extend(divided(piece, power))
        pieces = halves
    written = "".join([str(piece).zfill(PIECE_FIGURES) for piece in pieces])
    return written.lstrip("0") or "0"
