"""Routes: the points between which the pen, going straight, draws a picture again, with edges toggled on the way."""

from plotpens.trails import trails_of


def routes_of(picture):
    """A list of as few routes as possible. A route is a list of points of which neither x nor y, or only one of them,
    changes from one to the next."""
    trails = trails_of(picture)
    closed = [trail for trail in trails if trail[0] == trail[-1]]
    others = [trail for trail in trails if trail[0] != trail[-1]]
    if not trails:
        return []
    if not others:
        return [_with_detours(closed[0], closed[1:])]
    return [_with_detours(others[0], closed)] + [list(trail) for trail in others[1:]]


def _with_detours(trail, closed):
    """The route of a trail that first goes from one closed trail to the next, and back the same way."""
    there = [trail[0]]
    route = [trail[0]]
    for circle in closed:
        # What lies between is passed twice, there and back, and so it stays as it was.
        corner = (circle[0][0], there[-1][1])
        there.extend([corner, circle[0]])
        route.append(corner)
        route.extend(circle)
    back = there[:-1][::-1]
    return route + back + list(trail[1:])
