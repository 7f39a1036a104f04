"""Square systems and forms of wholes, by eliminations whose quotients have no rest."""


def eliminated(rows, at, last):
    """The rows with all that stands above and below the place at of the diagonal taken away; last is the one ahead."""
    lead = rows[at]
    pivot = lead[at]
    answer = []
    for place, row in enumerate(rows):
        if place == at:
            answer.append(lead)
        else:
            factor = row[at]
            answer.append([(pivot * x - factor * y) // last for x, y in zip(row, lead)])
    return answer


def solved(columns, wanted):
    """Wholes and one more that divides them: the factors with which independent columns sum to the wanted one."""
    size = len(columns)
    rows = [[column[at] for column in columns] + [wanted[at]] for at in range(size)]
    last = 1
    for at in range(size):
        rows = with_lead(rows, at)
        rows = eliminated(rows, at, last)
        last = rows[at][at]
    # An elimination leaves the same whole at all places of the diagonal.
    return [row[-1] for row in rows], last


def with_lead(rows, at):
    """The rows with one that is not zero at the place brought there."""
    place = at
    while rows[place][at] == 0:
        place = place + 1
    answer = list(rows)
    answer[at] = rows[place]
    answer[place] = rows[at]
    return answer


def signs_of_form(rows):
    """How many squares of a form have factors above zero, below zero, and zero; the rows are symmetric."""
    above = below = 0
    last = 1
    while len(rows) > 0:
        lead = first_square(rows)
        if lead is None:
            pair = first_mixed(rows)
            if pair is None:
                return above, below, len(rows)
            rows = with_sum(rows, pair[0], pair[1])
            lead = pair[0]
        pivot = rows[lead][lead]
        if (pivot > 0) == (last > 0):
            above = above + 1
        else:
            below = below + 1
        rows = rows_without(rows, lead, last)
        last = pivot
    return above, below, 0


def first_square(rows):
    """The first place of the diagonal that is not zero, None if there is none."""
    for at, row in enumerate(rows):
        if row[at] != 0:
            return at
    return None


def first_mixed(rows):
    """The first place of all that is not zero, None if there is none."""
    for i, row in enumerate(rows):
        for j, x in enumerate(row):
            if x != 0:
                return i, j
    return None


def with_sum(rows, i, j):
    """The form in which item i is exchanged for a sum, so that its own place is not zero."""
    answer = [row[:i] + [row[i] + row[j]] + row[i + 1:] for row in rows]
    answer[i] = [x + y for x, y in zip(answer[i], answer[j])]
    return answer


def rows_without(rows, lead, last):
    """The form that is left when a square with item lead is taken away, times what keeps it one of wholes."""
    factors = rows[lead][:lead] + rows[lead][lead + 1:]
    pivot = rows[lead][lead]
    others = [row[:lead] + row[lead + 1:] for row in rows[:lead] + rows[lead + 1:]]
    answer = []
    for at, row in enumerate(others):
        # What stands ahead of the diagonal has been worked in the rows ahead.
        ahead = [known[at] for known in answer]
        factor = factors[at]
        behind = [(pivot * x - factor * y) // last for x, y in zip(row[at:], factors[at:])]
        answer.append(ahead + behind)
    return answer
