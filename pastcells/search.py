"""The search by breadth over all histories, for a step at which something holds of two formulas' truths.

A place is a pair: the cells of the one formula's watcher and those of the other's.
"""

from pastcells.watcher import new_cells, worked

GIVEN_UP = -6


# What the search ends with: 0, how many steps and their readings, where is_wanted holds of the two truths
# behind them; 1 and how many places there are, if it holds nowhere; GIVEN_UP beyond the budget.
def searched(nodes, others, letters, budget, is_wanted):
    start = (new_cells(nodes), new_cells(others))
    row = [start]
    # For each place of the row the letters that brought it there first.
    ways = {start: []}
    looked = 0
    while looked < len(row):
        place = row[looked]
        for letter in letters:
            first = worked(nodes, place[0], letter)
            second = worked(others, place[1], letter)
            way = ways[place] + [letter]
            if is_wanted(first[0], second[0]):
                return told_way(way)
            after = (first[1], second[1])
            if after not in ways:
                ways[after] = way
                row.append(after)
        # Only here: what the last letters of a place bring is found whatever the budget.
        if len(row) > budget:
            return [GIVEN_UP]
        looked += 1
    return [1, len(row)]


# 0, how many steps, then each step's readings.
def told_way(way):
    told = [0, len(way)]
    for letter in way:
        told.extend(letter)
    return told
