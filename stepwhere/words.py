"""The words of texts: how a text is cut into them, and how blocks are written in them."""

RUN_SIGNS = "abcdefghijklmnopqrstuvwxyz0123456789"
BLANKS = " \n"


def words_of(text):
    """The words of a text in their order; a character that belongs to no word is here as one."""
    words = []
    begin = 0
    # The blank ends a run at the end of the text as any other sign does.
    for at, sign in enumerate(text + " "):
        if sign not in RUN_SIGNS:
            if begin < at:
                words.append(text[begin:at])
            if sign not in BLANKS:
                words.append(sign)
            begin = at + 1
    return words


def words_of_block(block, forms):
    """The words of the statements or steps of a block, without its braces; forms tell the kinds of their parts."""
    words = []
    for number, row in enumerate(block):
        if number > 0:
            words.append(";")
        words.append(row[0])
        for part, kind in zip(row[1:], forms[row[0]]):
            words.extend(words_of_part(part, kind, forms))
    return words


def words_of_part(part, kind, forms):
    """The words of one part of a statement or a step."""
    if kind == "block":
        return ["{"] + words_of_block(part, forms) + ["}"]
    if kind == "args":
        return list(part)
    return [str(part)]
