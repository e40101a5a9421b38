"""Two floors side by side: their lights, spread over the border between them."""

from glowcells.cuts import joined
from glowcells.lights import lights
from glowcells.spreading import raised


def over_border(one, other):
    floor = joined(one, other)[0]
    left = lights(one[0], one[1])
    right = lights(other[0], other[1])
    aside = [first + second for first, second in zip(left, right)]
    # No starts are needed: where light comes over the border, the cell beyond it lacks just that, and is raised.
    return raised(floor, aside, [])
