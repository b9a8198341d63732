"""The limits that the document names."""

MAX_PAINTERS = 40
MAX_DAY = 10 ** 30
MAX_POST = 10 ** 30
MAX_STRIDE = 10 ** 18
MAX_DAYS = 1000
MAX_FEW = 8
MAX_VISIT = 1000
MAX_SIZE = 10 ** 30
MAX_TEAMS = 8
