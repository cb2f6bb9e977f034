"""Deeds as lines, and halls as texts."""

from lateledger.checks import MOST_DAYS, MOST_GOODS, MOST_HOUSES
from lateledger.closing import Hall
from lateledger.deeds import KNOWN, MANY, check_hall, is_deed_for, try_deed
from lateledger.facts import CLOSE, STRIKE, TELL, told_deed
from lateledger.faults import InvalidDeed, InvalidText
from lateledger.numerals import count_in, number_in
from lateledger.words import is_good

NOTHING = "-"
# The words ahead of a bundle, behind the word of a fact: w is a word, n a number or nothing, g a good or nothing.
KINDS = {"transfer": "wwn", "order": "wnn", "line": "wwnn", "move": "ggn", "future": "w", "quote": "nn"}
# Where the bundle, which is last in the line, stands in the fact behind its word.
BUNDLE_AT = {"order": 1, "future": 1, "quote": 0}


def written(deed):
    """The line of what is a deed."""
    word, what = told_deed(deed)
    if word == CLOSE:
        return f"{CLOSE} {what}"
    plain = [sign_of(part) for part in what if not isinstance(part, dict)]
    goods = [sign_of(part) for bundle in what if isinstance(bundle, dict) for pair in bundle.items() for part in pair]
    return " ".join([TELL, *plain, *goods])


def sign_of(part):
    """A part of a fact, or a number, as texts have it."""
    return NOTHING if part is None else str(part)


def line_of(hall, deed):
    """The line of a deed."""
    check_hall(hall)
    if not is_deed_for(hall, deed):
        raise InvalidDeed(deed)
    return written(deed)


def deed_in(hall, value):
    """The deed of the hall whose line any value is, None if there is none."""
    check_hall(hall)
    return deed_for(hall, value)


def deed_for(hall, value):
    """The deed of what is a Hall whose line any value is, None if there is none."""
    if not isinstance(value, str):
        return None
    deed = _deed_of(value.split(" "))
    # What is not written as the deed that it seems to be is no line: goods out of sequence, for example, or at 0.
    if not is_deed_for(hall, deed) or written(deed) != value:
        return None
    return told_deed(deed)


def _deed_of(words):
    """What may be the deed of these words; None if they cannot be any."""
    if words[0] == CLOSE and len(words) == 2:
        return (CLOSE, number_in(words[1]))
    if words[0] != TELL or len(words) < 4:
        return None
    if words[2] == STRIKE:
        return (TELL, (words[1], *words[2:]))
    parts = _parts_of(words[3], words[4:])
    return None if parts is None else (TELL, (words[1], number_in(words[2]), words[3], *parts))


def _parts_of(word, words):
    """What may be the parts of a fact behind its word; None if there are too few words for it, or too many."""
    if word not in KINDS:
        return None
    kinds = KINDS[word]
    parts = [_part_of(kind, one) for kind, one in zip(kinds, words)]
    goods = words[len(kinds):]
    if len(parts) < len(kinds) or len(goods) & 1:
        return None
    if word not in BUNDLE_AT:
        return parts if len(goods) == 0 else None
    parts.insert(BUNDLE_AT[word], {goods[at]: number_in(goods[at + 1]) for at in range(0, len(goods), 2)})
    return parts


def _part_of(kind, word):
    if kind == "n":
        return number_in(word)
    return None if kind == "g" and word == NOTHING else word


def text_of(hall):
    """The text of a hall."""
    check_hall(hall)
    head = [f"hall {hall.days}", " ".join(["houses", *hall.houses()]), " ".join(["goods", *hall.goods()])]
    return "".join([line + "\n" for line in head + [written(deed) for deed in hall.deeds()]])


def bytes_of(hall):
    """The text of a hall as bytes."""
    return text_of(hall).encode()


def read_hall(text):
    """The Hall with this text."""
    if not isinstance(text, str):
        raise InvalidText(None)
    lines = text.split("\n")
    # Behind the last line feed stands nothing, or a line that has none.
    whole, rest = lines[:-1], lines[-1]
    head = []
    for number, line in enumerate(whole[:3], 1):
        part = _part_of_head(line, head)
        if part is None:
            raise InvalidText(number)
        head.append(part)
    if len(head) < 3:
        raise InvalidText(len(lines))
    hall = Hall(head[1], head[2], head[0])
    for number, line in enumerate(whole[3:], 4):
        deed = deed_for(hall, line)
        if deed is None or try_deed(hall, deed) in (KNOWN, MANY):
            raise InvalidText(number)
    if rest != "":
        raise InvalidText(len(lines))
    return hall


def _part_of_head(line, ahead):
    """What a line of the head tells behind those ahead of it: days, then houses, then goods; None if it cannot be."""
    words = line.split(" ")
    if len(ahead) == 0:
        days = count_in(words[-1])
        return days if words[:-1] == ["hall"] and days is not None and 1 <= days <= MOST_DAYS else None
    if len(ahead) == 1:
        return _names_in(words, "houses", MOST_HOUSES, [])
    return _names_in(words, "goods", MOST_GOODS, ahead[1])


def _names_in(words, word, most, barred):
    """The names behind the first word, None unless they are houses or goods, sorted, and none of those barred."""
    names = words[1:]
    if words[0] != word or not 1 <= len(names) <= most or names != sorted(set(names)):
        return None
    return names if all([is_good(name) and name not in barred for name in names]) else None
