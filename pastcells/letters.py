"""Samples and letters: enough steps to stand for all steps, for some comparisons."""

READING_COUNT = 8
LEAST_READING = -1000000
MOST_READING = 1000000


# The samples of a reading for some comparisons (reading, operator, number), in rising order.
def samples(reading, comparisons):
    numbers = sorted(set([comparison[2] for comparison in comparisons if comparison[0] == reading]))
    if numbers == []:
        return [0]
    found = []
    if numbers[0] > LEAST_READING:
        found.append(numbers[0] - 1)
    for number, beyond in zip(numbers, numbers[1:] + [MOST_READING + 1]):
        found.append(number)
        if number + 1 < beyond:
            found.append(number + 1)
    return found


# The letters for some comparisons, in their order.
def all_letters(comparisons):
    rows = [[]]
    for reading in range(READING_COUNT):
        rows = lengthened(rows, samples(reading, comparisons))
    return rows


# Each row with each of the numbers put behind it.
def lengthened(rows, numbers):
    longer = []
    for row in rows:
        for number in numbers:
            longer.append(row + [number])
    return longer


# How many letters there are for some comparisons (far too many, maybe, to write them all down).
def letter_count(comparisons):
    product = 1
    for reading in range(READING_COUNT):
        product = product * len(samples(reading, comparisons))
    return product
