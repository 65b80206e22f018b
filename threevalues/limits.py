"""The six numbers that limit what the package takes."""

MOST_TABLES = 6
MOST_LETTERS = 4
MOST_PLACES = 3
MOST_OPEN = 6
MOST_MADE = 60
MOST_EXCHANGES = 5
