"""Rings: columns that lean on one another round to the first."""


def ring_from(leanings, spot):
    came_from = {}
    waiting = [spot]
    # The nearer spots are walked first, so the first way back to the spot is a shortest one.
    while waiting:
        farther = []
        for leaning in waiting:
            for leant in leanings.get(leaning, []):
                if leant == spot:
                    return way_to(came_from, spot, leaning)
                if leant not in came_from:
                    came_from[leant] = leaning
                    farther.append(leant)
        waiting = farther
    return None


def way_to(came_from, spot, last):
    way = [last]
    while way[-1] != spot:
        way.append(came_from[way[-1]])
    return list(reversed(way))
