"""The right tables, and their sums."""

from surenumbers.basics import least_divisor, power_of


def divisors_of(number):
    """The divisors of a number from 1 on."""
    return [divisor for divisor in range(1, number + 1) if number % divisor == 0]


def row_of(word, number):
    """What the word tells of the number: how many divisors, their sum, the least one from 2 on."""
    if word == "least":
        return least_divisor(number)
    divisors = divisors_of(number)
    return len(divisors) if word == "many" else sum(divisors)


def table_of(word, size):
    """What the word tells of each number from 1 to the size."""
    return tuple([row_of(word, number) for number in range(1, size + 1)])


def sum_of(rows, power):
    """The sum of each row times its number, from 1 on, taken so many times."""
    return sum([power_of(number, power) * row for number, row in enumerate(rows, start=1)])


def due_sum(word, size, power):
    """That sum of the right table of many or total, told without the table: by each divisor and its multiples."""
    due = 0
    for divisor in range(1, size + 1):
        weight = divisor if word == "total" else 1
        due += weight * sum([power_of(number, power) for number in range(divisor, size + 1, divisor)])
    return due
