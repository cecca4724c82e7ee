"""The walk of promises [21], [22] and [25], step by step and cell by cell, for the tests to compare with."""


def cells_of(area):
    return {(across, down) for across in range(area[0], area[1]) for down in range(area[2], area[3])}


def literal_walk(items, many_across, dense, across_is_cut=False, down_is_cut=False, many_down=0):
    """Return the areas of items (order, across, down), what edges mean being told for both axes, in the flow "row"."""
    order = sorted(range(len(items)), key=lambda index: (items[index][0], index))
    first_across = min([0] + [item[1][1] for item in items if item[1][0] == "at"])
    first_down = min([0] + [item[2][1] for item in items if item[2][0] == "at"])
    areas = {}
    taken = set()

    def put(index, area):
        areas[index] = area
        taken.update(cells_of(area))

    for index in order:
        _, across, down = items[index]
        if across[0] == "at" and down[0] == "at":
            put(index, (across[1], across[2], down[1], down[2]))
    placed_now = []
    for index in order:
        _, across, down = items[index]
        if across[0] == "span" and down[0] == "at":
            column = first_across
            while True:
                area = (column, column + across[1], down[1], down[2])
                ahead = [other for other in placed_now
                         if set(range(other[2], other[3])) & set(range(down[1], down[2])) and column < other[1]]
                if not cells_of(area) & taken and (dense or not ahead):
                    break
                column += 1
            put(index, area)
            placed_now.append(area)
    told_ends = [item[1][2] for item in items if item[1][0] == "at"]
    end = max([many_across] + told_ends + [area[1] for area in areas.values()])
    spans = [items[index][1][1] for index in order if index not in areas and items[index][1][0] == "span"]
    end = max([end] + [first_across + span for span in spans])
    if across_is_cut:
        end = many_across
    column, row = first_across, first_down
    for index in order:
        if index in areas:
            continue
        _, across, down = items[index]
        if dense:
            column, row = first_across, first_down
        if across[0] == "at":
            if across[1] < column and not dense:
                row += 1
            column = across[1]
            while cells_of((column, across[2], row, row + down[1])) & taken:
                row += 1
            put(index, (column, across[2], row, row + down[1]))
        else:
            while True:
                area = (column, column + across[1], row, row + down[1])
                if area[1] > end:
                    column, row = first_across, row + 1
                elif cells_of(area) & taken:
                    column += 1
                else:
                    break
            put(index, area)
    found = []
    for index in range(len(items)):
        first, behind, top, bottom = areas[index]
        right = behind - many_across if across_is_cut and behind > many_across else 0
        below = bottom - many_down if down_is_cut and bottom > many_down else 0
        found.append((first - right, behind - right, top - below, bottom - below))
    return found
