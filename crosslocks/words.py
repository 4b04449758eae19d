"""The words and the one bound that all other files share."""

RED = "red"
BLUE = "blue"

MOST = 400
