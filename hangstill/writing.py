"""Writing: mobiles and weights as texts, and such texts read."""

from hangstill.errors import NoText
from hangstill.mobiles import HEAVIEST, LONGEST_ARM, LONGEST_NAME, MOST_RODS, check_are_weights, check_mobile, is_name
from hangstill.mobiles import is_weights

FIGURES = "0123456789"


def check_text(thing):
    if not isinstance(thing, str):
        raise NoText("this is no text")


def whole_number(text, last):
    # Python reads more than is written here as a number: signs, blanks, noughts ahead, figures of other scripts.
    if not 1 <= len(text) <= len(str(last)) or text[0] == "0" or not all([sign in FIGURES for sign in text]):
        raise NoText("there should be a number")
    return int(text)


def behind(text, sign):
    if not text.startswith(sign):
        raise NoText(f"there should be {sign!r}")
    return text[len(sign):]


def weight_ahead(text):
    end = 0
    # Of a longer name a letter is left over, and no letter may stand behind a weight.
    while end < LONGEST_NAME and is_name(text[end:end + 1]):
        end += 1
    if end == 0:
        raise NoText("there should be a name")
    return (("weight", text[:end]), text[end:])


def mobile_ahead(text, rods):
    # Where it ends only reading tells, so the text behind it is told too.
    if not text.startswith("("):
        return weight_ahead(text)
    # Counted on the way down, so that brackets without end are refused too.
    if rods == 0:
        raise NoText("there are more than 5 rods within one another")
    left = whole_number(text[1:2], LONGEST_ARM)
    right = whole_number(behind(text[2:4], ":"), LONGEST_ARM)
    one = mobile_ahead(behind(text[4:], " "), rods - 1)
    other = mobile_ahead(behind(one[1], " "), rods - 1)
    return (("rod", left, right, one[0], other[0]), behind(other[1], ")"))


def named_number(text):
    parts = text.partition("=")
    return (parts[0], whole_number(parts[2], HEAVIEST))


def written_below(mobile):
    if mobile[0] == "weight":
        return mobile[1]
    left = mobile[1]
    right = mobile[2]
    one = written_below(mobile[3])
    other = written_below(mobile[4])
    return f"({left}:{right} {one} {other})"


def written(mobile):
    check_mobile(mobile)
    return written_below(mobile)


def read(text):
    check_text(text)
    told = mobile_ahead(text, MOST_RODS)
    if told[1] != "":
        raise NoText("there is more than a mobile")
    return told[0]


def weights_text(weights):
    check_are_weights(weights)
    return " ".join([f"{name}={number}" for name, number in weights])


def read_weights(text):
    check_text(text)
    if text == "":
        return ()
    weights = tuple([named_number(part) for part in text.split(" ")])
    if not is_weights(weights):
        raise NoText("these are no weights")
    return weights
