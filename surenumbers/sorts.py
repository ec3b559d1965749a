"""Which functions are those of which sort."""

from surenumbers.dividing import dividing_denies, dividing_made, dividing_shows
from surenumbers.orders import order_denies, order_made, order_shows
from surenumbers.pells import pell_denies, pell_made, pell_shows
from surenumbers.primes import prime_denies, prime_made, prime_shows
from surenumbers.rests import rest_denies, rest_made, rest_shows
from surenumbers.squares import squares_deny, squares_made, squares_show
from surenumbers.symbols import symbol_denies, symbol_made, symbol_shows
from surenumbers.tablechecks import table_denies, table_made, table_shows
from surenumbers.walks import walk_denies, walk_made, walk_shows


def functions_of(word):
    """What shows, what denies and what makes, of a sort whose statements have no other one in them."""
    walk = (walk_shows, walk_denies, walk_made)
    dividing = (dividing_shows, dividing_denies, dividing_made)
    prime = (prime_shows, prime_denies, prime_made)
    rest = (rest_shows, rest_denies, rest_made)
    order = (order_shows, order_denies, order_made)
    table = {
        "same": walk, "below": walk, "row": walk, "count": walk, "divides": dividing, "shared": dividing,
        "prime": prime, "factors": prime, "joined": rest, "clash": rest, "order": order, "root": order,
        "square": (symbol_shows, symbol_denies, symbol_made), "squares": (squares_show, squares_deny, squares_made),
        "pell": (pell_shows, pell_denies, pell_made), "table": (table_shows, table_denies, table_made),
    }
    return table[word]
