"""What the tests of kept values share: kin by a walk, echelon rows and equations by plain steps over fractions."""

from fractions import Fraction


def summed(terms):
    """Return the coefficients other than 0 by words, as tuples."""
    totals = {}
    for coefficient, word in terms:
        totals[tuple(word)] = totals.get(tuple(word), 0) + coefficient
    return {word: total for word, total in totals.items() if total != 0}


def kin_of(formulas):
    """Return, as dicts, the plain formulas, their derivatives, the derivatives of those, and so on."""
    found = []
    for formula in formulas:
        coefficients = summed(formula.terms)
        ends = {word[place:] for word in coefficients for place in range(len(word) + 1)}
        for end in sorted(ends):
            found.append({
                word[:len(word) - len(end)]: coefficient
                for word, coefficient in coefficients.items()
                if word[len(word) - len(end):] == end
            })
    return found


def echelon(rows):
    """Return the echelon rows, reduced from the bottom, of all sums of integer multiples of lists of integers."""
    rows = [list(row) for row in rows]
    done = []
    for column in range(len(rows[0]) if rows else 0):
        while True:
            with_number = [row for row in rows if row[column] != 0]
            if len(with_number) < 2:
                break
            least = min(with_number, key=lambda row: abs(row[column]))
            for row in with_number:
                if row is not least:
                    times = row[column] // least[column]
                    row[:] = [number - times * other for number, other in zip(row, least)]
        if with_number:
            rows.remove(with_number[0])
            sign = 1 if with_number[0][column] > 0 else -1
            done.append((column, [sign * number for number in with_number[0]]))
    for place in range(len(done) - 1, -1, -1):
        for column, lower in done[place + 1:]:
            row = done[place][1]
            times = row[column] // lower[column]
            row[:] = [number - times * other for number, other in zip(row, lower)]
    return [row for _, row in done]


def reckoned_keeper(formulas):
    """Return the terms of the formulas of the keeper, from all kin at once."""
    kin = kin_of(formulas)
    words = sorted({word for each in kin for word in each}, key=lambda word: (len(word), word), reverse=True)
    rows = echelon([[each.get(word, 0) for word in words] for each in kin])
    return [[(number, list(word)) for word, number in zip(words[::-1], row[::-1]) if number] for row in rows]


def solved(vectors, wanted):
    """Return fractions by which independent dicts of integers add up to a wanted one, None if there are none."""
    keys = sorted({key for each in vectors + [wanted] for key in each})
    # One equation for each key.
    rows = [[Fraction(each.get(key, 0)) for each in vectors + [wanted]] for key in keys]
    firsts = []
    for unknown in range(len(vectors)):
        row = next((row for row in rows if row[unknown] != 0 and row not in firsts), None)
        if row is None:
            raise ValueError("the vectors are not independent")
        row[:] = [number / row[unknown] for number in row]
        for other in rows:
            if other is not row and other[unknown] != 0:
                other[:] = [number - other[unknown] * share for number, share in zip(other, row)]
        firsts.append(row)
    if any(row[-1] != 0 for row in rows if row not in firsts):
        return None
    return [row[-1] for row in firsts]
