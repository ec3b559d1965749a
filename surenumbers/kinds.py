"""The bounds and words that the other modules share."""

LIMIT = 10000
MOST = 4000
MANY = 20
WORDS = ("many", "total", "least")

# The greatest number that makers look at, which is the greatest prime of chains and factors, too.
GREATEST_LOOKED_AT = 99999
# How often a prime may stand in a product.
MOST_TIMES = 130
