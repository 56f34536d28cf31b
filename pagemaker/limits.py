"""The numbers and words that several files share."""

PAGE = "page"
FIELDS = ("title", "path", "day", "tags", "body", "inner")
MOST = 4

NAME_LETTERS = 8
PATH_NAMES = 3
LAST_DAY = 999

TITLE_SIGNS = 40
SOURCE_TAGS = 3
SOURCE_OLDS = 6
SOURCE_ROWS = 8
ROW_SIGNS = 50

HEAD_DEEP = 3

TEMPLATE_PIECES = 12
PLAIN_SIGNS = 60
WHEN_DEEP = 3

SITE_SOURCES = 12
SITE_TEMPLATES = 8
PART_PAGES = 9

MOST_FILLINGS = 24
