"""Stage 10: nets and the rows that they tell, written as text; and a net's text, read."""

from roadnet.common import is_text_of
from roadnet.errors import NoRow
from roadnet.measures import BOUNDS, Measures
from roadnet.names import is_name

MOST_FIGURES = 5
FIGURES = "0123456789"
NONE = "none"
NO_DELAYS = "-"
# The rows behind the measures, in the order in which they stand.
KINDS = ("line", "change", "road", "wish")


def number_text(number):
    return NONE if number is None else str(number)


def numbers_text(numbers):
    return " ".join([number_text(number) for number in numbers])


# How many signs there are is told ahead of them: so it is plain where they end, whatever signs they are.
def thing_text(thing):
    if thing[0] != "signs":
        return thing[0]
    signs = thing[1]
    many = len(signs)
    return f"signs {many} {signs}"


def body_text(body):
    word = body[0]
    if word == "piece":
        parts = [number_text(body[1]), thing_text(body[2])]
    elif word == "got":
        parts = [number_text(body[1])]
    else:
        parts = [body[1], numbers_text(body[2:])]
    return " ".join([word] + parts)


def parcel_text(parcel):
    return numbers_text(parcel[:3]) + " " + body_text(parcel[3])


def pair_text(pair):
    return number_text(pair[0]) + " " + parcel_text(pair[1])


def wish_text(word, what):
    if word != "put":
        return f"{word} {what}"
    goal = what[0]
    text = what[1]
    return f"put {goal} {text}"


# A row of the net has words and numbers, and perhaps parts, each behind a semicolon.
def parted(words, parts):
    return " ".join(words) + "".join([f"; {part}" for part in parts])


def row_text(row):
    word = row[0]
    if word == "way":
        return parted([word, numbers_text(row[1:])], [])
    if word == "wish":
        return parted([word, numbers_text(row[1:3]), row[5], wish_text(row[3], row[4])], [])
    if word == "here":
        return parted([word, numbers_text(row[1:3]), parcel_text(row[3])], [])
    if word == "gone":
        return parted([word, numbers_text(row[1:3]), row[4], parcel_text(row[3])], [])
    if word == "read":
        return parted([word, numbers_text(row[1:4])], [thing_text(thing) for thing in row[4]])
    if word == "came":
        return parted([word, numbers_text(row[1:5])], [parcel_text(parcel) for parcel in row[5]])
    return parted([word, numbers_text(row[1:4] + row[5:])], [pair_text(pair) for pair in row[4]])


def deed_text(deed):
    return ",".join([str(delay) for delay in deed]) if deed else NO_DELAYS


def deeds_text(deeds):
    return "/".join([deed_text(deed) for deed in deeds]) if deeds else NONE


def net_text(measures, lines, changes, roads, wishes):
    rows = ["measures " + numbers_text(measures.numbers())]
    rows.extend(["line " + numbers_text(line) for line in lines])
    rows.extend(["change " + numbers_text(change) for change in changes])
    rows.extend(["road " + numbers_text(road[:2]) + " " + deeds_text(road[2]) for road in roads])
    rows.extend(["wish " + numbers_text(wish[:2]) + " " + wish_text(wish[2], wish[3]) for wish in wishes])
    return "\n".join(rows)


def is_number(word):
    if not 1 <= len(word) <= MOST_FIGURES or not all([sign in FIGURES for sign in word]):
        return False
    return word == "0" or word[0] != "0"


# A reader is told a word and the place of its row, which a refusal bears.
def read_number(word, at):
    if not is_number(word):
        raise NoRow(at)
    return int(word)


def read_price(word, at):
    return None if word == NONE else read_number(word, at)


def read_deed(word, at):
    return () if word == NO_DELAYS else tuple([read_number(part, at) for part in word.split(",")])


def read_deeds(word, at):
    return [] if word == NONE else [read_deed(part, at) for part in word.split("/")]


def read_name(word, at):
    if not is_name(word):
        raise NoRow(at)
    return word


def read_signs(word, at):
    if not is_text_of(word, len(word), " ", "~"):
        raise NoRow(at)
    return word


ROW_READERS = {
    "line": (read_number, read_number, read_price),
    "change": (read_number, read_number, read_number, read_price),
    "road": (read_number, read_number, read_deeds),
}
WISH_READERS = {
    "begin": (read_number,),
    "end": (read_number,),
    "put": (read_number, read_signs),
    "bind": (read_name,),
    "free": (read_name,),
    "ask": (read_name,),
}


def read_words(words, readers, at):
    if len(words) != len(readers):
        raise NoRow(at)
    return tuple([reader(word, at) for reader, word in zip(readers, words)])


def read_measures(row):
    words = row.split(" ")
    if words[0] != "measures":
        raise NoRow(0)
    return read_words(words[1:], [read_number] * len(BOUNDS), 0)


# Only a text to be put may have blanks: it is the sixth word, and the last one.
def read_wish(row, at):
    words = row.split(" ", 5)
    if len(words) < 4 or words[3] not in WISH_READERS:
        raise NoRow(at)
    whose = read_words(words[1:3], (read_number, read_number), at)
    what = read_words(words[4:], WISH_READERS[words[3]], at)
    return whose + (words[3], what if words[3] == "put" else what[0])


def read_row(row, kind, at):
    if kind == "wish":
        return read_wish(row, at)
    return read_words(row.split(" ")[1:], ROW_READERS[kind], at)


# By kinds, lists of the rows behind that of the measures.
def read_rows(rows):
    told = dict([(kind, []) for kind in KINDS])
    kinds_left = KINDS
    for at, row in enumerate(rows):
        if at > 0:
            kind = row.partition(" ")[0]
            if kind not in kinds_left:
                raise NoRow(at)
            kinds_left = KINDS[KINDS.index(kind):]
            told[kind].append(read_row(row, kind, at))
    return told


def read_net(text):
    if not isinstance(text, str):
        raise NoRow(0)
    rows = text.split("\n")
    ten = read_measures(rows[0])
    told = read_rows(rows)
    measures = Measures(ten[0], ten[1], ten[2], ten[3], ten[4], ten[5], ten[6], ten[7], ten[8], ten[9])
    return (measures, told["line"], told["change"], told["road"], told["wish"])
