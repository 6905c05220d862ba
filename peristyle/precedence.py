"""How tightly the parts of the grammar bind ([4.3]); a greater number binds more tightly."""

EXPR = 1
BOTH = 2
DENIAL = 3
TEST = 4
SUM = 5
PRODUCT = 6
SIGN = 7
ATOM = 8
