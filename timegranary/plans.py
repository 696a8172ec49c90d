"""Plans: a stretch put together of cells and points at the least cost, and papers that show it."""

from timegranary.wholes import is_whole


def edges_of(start, end, cells):
    """The times, rising, at which pieces of a stretch may meet."""
    times = [start, end]
    for cell_start, cell_end in cells:
        if start <= cell_start and cell_end <= end:
            times.extend([cell_start, cell_end])
    return sorted(set(times))


def counts_below(edges, points):
    """For each of rising edges how many times of points are below it."""
    times = sorted(points)
    counts = []
    passed = 0
    for edge in edges:
        while passed < len(times) and times[passed] < edge:
            passed += 1
        counts.append(passed)
    return counts


def steps_from(start, end, horizon, cells, points):
    """By each edge, rising, the steps from it: the word of the piece, the edge that it leads to, its cost."""
    edges = edges_of(start, end, cells)
    counts = counts_below(edges, points)
    steps = {edge: [] for edge in edges}
    for at in range(len(edges) - 1):
        if horizon is None or edges[at] >= horizon:
            steps[edges[at]].append(("points", edges[at + 1], counts[at + 1] - counts[at]))
    for cell_start, cell_end in cells:
        if start <= cell_start and cell_end <= end:
            steps[cell_start].append(("cell", cell_end, 1))
    return steps


def walked(steps, start):
    """The least heights of all edges that steps lead to, and by each but the start the last piece on the way."""
    heights = {start: 0}
    pieces = {}
    # All steps go forth: the height of an edge is settled when its turn comes.
    for edge, own_steps in steps.items():
        if edge not in heights:
            continue
        for word, behind, cost in own_steps:
            height = heights[edge] + cost
            if behind not in heights or height < heights[behind]:
                heights[behind] = height
                pieces[behind] = (word, edge, behind)
    return heights, pieces


def traced(pieces, start, end):
    """The pieces from the start to the end, by the last piece on the way to each edge."""
    back = []
    at = end
    while at > start:
        back.append(pieces[at])
        at = pieces[at][1]
    return back[::-1]


def with_whole_points(pieces):
    """The pieces, points pieces side by side made one."""
    out = []
    for word, start, end in pieces:
        if out and word == "points" and out[-1][0] == "points":
            out[-1] = ("points", out[-1][1], end)
        else:
            out.append((word, start, end))
    return out


def least_plan(start, end, *, horizon=None, cells=(), points=()):
    """A plan of least cost and the heights that show it, or a gap that shows that there is none."""
    heights, pieces = walked(steps_from(start, end, horizon, cells, points), start)
    if end not in heights:
        return "gap", sorted(heights)
    return "plan", with_whole_points(traced(pieces, start, end)), [(edge, heights[edge]) for edge in sorted(heights)]


def is_piece(thing):
    """Whether a thing is a word of pieces with a stretch that has a time."""
    if not isinstance(thing, tuple) or len(thing) != 3 or thing[0] not in ("cell", "points"):
        return False
    return is_whole(thing[1]) and is_whole(thing[2]) and thing[1] < thing[2]


def is_plan(pieces, start, end, *, horizon=None, cells=()):
    """Whether pieces are a plan of a stretch."""
    if not isinstance(pieces, list):
        return False
    cell_table = {(cell_start, cell_end): True for cell_start, cell_end in cells}
    at = start
    for piece in pieces:
        if not is_piece(piece) or piece[1] != at:
            return False
        if piece[0] == "cell" and (piece[1], piece[2]) not in cell_table:
            return False
        if piece[0] == "points" and horizon is not None and piece[1] < horizon:
            return False
        at = piece[2]
    return at == end


def cost_of(pieces, points):
    """What a plan costs: 1 for a cell, of points how many there are."""
    cost = 0
    for word, start, end in pieces:
        cost += 1 if word == "cell" else len([time for time in points if start <= time < end])
    return cost


def is_height(thing):
    """Whether a thing is a time with a height."""
    return isinstance(thing, tuple) and len(thing) == 2 and is_whole(thing[0]) and is_whole(thing[1])


def height_table(thing, start, end, steps):
    """Heights as a dict by times, None where the thing isn't such as show a least cost."""
    if not isinstance(thing, list) or not all([is_height(part) for part in thing]):
        return None
    heights = {time: height for time, height in thing}
    if len(heights) < len(thing) or heights.get(start) != 0 or end not in heights:
        return None
    for time, height in thing:
        if time not in steps:
            return None
        for word, behind, cost in steps[time]:
            if behind not in heights or heights[behind] > height + cost:
                return None
    return heights


def is_gap(thing, start, end, steps):
    """Whether a thing is a list of edges, with the start and without the end, out of which no step leads."""
    if not isinstance(thing, list) or not all([is_whole(edge) for edge in thing]):
        return False
    edges = {edge: True for edge in thing}
    if len(edges) < len(thing) or start not in edges or end in edges:
        return False
    if not all([edge in steps for edge in thing]):
        return False
    return all([behind in edges for edge in thing for word, behind, cost in steps[edge]])


def shows_least(thing, start, end, *, horizon=None, cells=(), points=()):
    """Whether a thing is a plan with heights that show its cost to be the least, or a gap."""
    if not isinstance(thing, tuple) or len(thing) not in (2, 3):
        return False
    steps = steps_from(start, end, horizon, cells, points)
    if len(thing) == 2:
        return thing[0] == "gap" and is_gap(thing[1], start, end, steps)
    if thing[0] != "plan" or not is_plan(thing[1], start, end, horizon=horizon, cells=cells):
        return False
    heights = height_table(thing[2], start, end, steps)
    return heights is not None and heights[end] == cost_of(thing[1], points)
