"""The bounds of what is told in texts: pairs of the least and the most, and how many there may be."""

LENGTH = (1, 1000)
GAP = (1, 100)
WEIGHT = (0, 1000000)
BURDEN = (1, 10000000)
WIDE = (1, 200)
SPEED = (1, 12)
MINUTE = (0, 10000)

LEAST_OPEN = 200
MOST_BRIDGES = 6
MOST_LOADS = 6
MOST_WHEELS = 8
MOST_SPAN = 200
