"""Powers of whole numbers."""


def power_of(number, many):
    """number multiplied by itself, so many times in all; 1 for none."""
    power = 1
    square = number
    while many > 0:
        if many % 2 == 1:
            power = power * square
        many = many // 2
        # The last square would be the greatest one, and is not needed.
        if many > 0:
            square = square * square
    return power
