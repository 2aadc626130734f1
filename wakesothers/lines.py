"""The lines that tell deeds, in journals and at a desk."""

from wakesothers.facts import are_names, fact_told

FIGURES = "0123456789"


def drop_line(number):
    return f"drop {number}"


def put_line(device, came):
    if came:
        return " ".join(["put", device, ":", *came])
    return f"put {device}"


def deed_told(words):
    """The deed that the words tell, words as they stand, or None if they have no such form."""
    fact = fact_told(words)
    if fact is not None:
        return ("tell", fact)
    if words == ["off"]:
        return ("off",)
    if words[0] == "drop" and len(words) == 2 and _is_number(words[1]):
        return ("drop", int(words[1]))
    if words[0] == "put" and _are_put(words[1:]):
        return ("put", words[1], tuple(words[3:]))
    return None


def do_deed(watch, deed):
    """Does on the watch what deed_told told; raises what the watch raises."""
    if deed[0] == "tell":
        watch.tell(deed[1])
    elif deed[0] == "drop":
        watch.drop(deed[1])
    elif deed[0] == "put":
        watch.put(deed[1], deed[2])
    else:
        watch.off()


def _is_number(word):
    """Whether the word is an integer from 0 on without zeros ahead."""
    if word == "" or not all([figure in FIGURES for figure in word]):
        return False
    return word == "0" or word[0] != "0"


def _are_put(words):
    """Whether these are a name, and, if there is more, a colon and at least one name."""
    if len(words) == 1:
        return are_names(words)
    return len(words) > 2 and words[1] == ":" and are_names(words[:1]) and are_names(words[2:])
