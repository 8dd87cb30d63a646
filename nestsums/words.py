"""Words, lists of letters, and their sums on rows."""


def has_negative(word):
    """Tell whether a word has a negative letter."""
    return any([letter < 0 for letter in word])


def power(number, letter):
    """Return a number to the power of a letter; 0 to the power 0 is 1."""
    result = 1
    for _ in range(letter):
        result = result * number
    return result


def beginning_sums(word, row):
    """Return the sums on a row of all beginnings of a word, from the empty one to the whole word."""
    # sums[place] is the sum of the word's first letters, as many as place,
    # on the numbers that were gone through so far.
    sums = [1] + [0] * len(word)
    for number in row:
        # From the last letter to the first one: otherwise one number could
        # be chosen for two letters.
        for place in range(len(word), 0, -1):
            sums[place] += sums[place - 1] * power(number, word[place - 1])
    return sums


def word_sum(word, row):
    """Return the sum of a word on a row."""
    return beginning_sums(word, row)[-1]
