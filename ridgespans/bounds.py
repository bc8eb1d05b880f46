"""All bounds that the document names, those of its later parts too."""

MAX_NUMBER = 10 ** 30
MAX_PLACES = 4
MAX_LOT = 40
MAX_LINES = 6
MAX_FEW = 8
MAX_CUTS = 6
MAX_COMMON = 3
MAX_EQUAL = 4
MAX_TIGHT = 3
MAX_PAPER = 60
MAX_SLOPE = 20
MAX_SIDE = 3
MAX_TIE = 20
MAX_POWER = 10 ** 18
MAX_WALK = 200
MAX_BEAT = 5
MAX_EDITS = 40
BATCH = 12
