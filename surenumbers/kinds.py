"""The bounds and words that the other modules share."""

LIMIT = 10000
MOST = 4000
MANY = 20
WORDS = ("many", "total", "least")
