"""The darkest way between two places, and the brightest places."""

from glowcells.errors import NoWay, Walled
from glowcells.spreading import check_rows, number_at


def darkest(floor, rows, one, other):
    check_rows(floor, rows)
    check_ends(floor, one, other)
    start = tuple(one)
    goal = tuple(other)
    numbers = sorted(set([number_at(rows, place) for place in floor.places()]))
    if goal not in reached(floor, rows, start, numbers[-1]):
        raise NoWay("no way leads from the one place to the other")
    most = least_most(floor, rows, start, goal, numbers)
    return (most, way_back(reached(floor, rows, start, most), goal))


def check_ends(floor, one, other):
    floor.check_place(one)
    floor.check_place(other)
    if floor.is_wall(one) or floor.is_wall(other):
        raise Walled("no way begins or ends at a wall")


def least_most(floor, rows, start, goal, numbers):
    # Whoever comes to the goal by numbers up to one, comes there by those up to a greater one too.
    low = 0
    high = len(numbers) - 1
    while low < high:
        middle = (low + high) // 2
        if goal in reached(floor, rows, start, numbers[middle]):
            high = middle
        else:
            low = middle + 1
    return numbers[low]


def reached(floor, rows, start, most):
    # By each place to which cells of that number at most lead, the one ahead of it; the start is its own.
    ahead = {}
    if number_at(rows, start) > most:
        return ahead
    ahead[start] = start
    found = [start]
    done = 0
    while done < len(found):
        for near in floor.beside(found[done]):
            if near not in ahead and number_at(rows, near) <= most:
                ahead[near] = found[done]
                found.append(near)
        done += 1
    return ahead


def way_back(ahead, goal):
    way = [goal]
    while ahead[way[-1]] != way[-1]:
        way.append(ahead[way[-1]])
    return list(reversed(way))


def brightest(floor, rows):
    check_rows(floor, rows)
    places = [place for place in floor.places() if not floor.is_wall(place)]
    most = max([number_at(rows, place) for place in places], default=0)
    return (most, [place for place in places if number_at(rows, place) == most])
