"""A grammar of the texts, by which the first wrong word of a text is found in another way than the package does."""

import re

# What begins with ' stands for itself, what is in capitals for a class of words; the rest is written out here.
STATEMENTS = ("'set NAME SOURCE", "'hold NAME NAME SOURCE", "'reset NAME", "'drop NAME", "'show NAME", "'copy NAME",
              "'within NAME block", "'if NAME INTEGER block block", "'with NAME SOURCE block", "'guard block block",
              "'loop block", "'leave", "'yield", "'fail")
STEPS = ("'set NAME VALUE", "'hold NAME NAME VALUE", "'reset NAME", "'drop NAME", "'show NAME", "'copy NAME",
         "'within NAME steps", "'guard steps", "'make NAME NAME names", "'step NAME", "'close NAME")
GRAMMAR = {
    "book": ("'vars names pieces",),
    "names": ("", "NAME names"),
    "pieces": ("", "'; piece pieces"),
    "piece": ("'piece NAME params block",),
    "params": ("", "NAME KIND params"),
    "block": ("'{ rows '}",),
    "rows": ("", "row more"),
    "more": ("", "'; row more"),
    "row": STATEMENTS,
    "program": ("", "step behind"),
    "behind": ("", "'; step behind"),
    "step": STEPS,
    "steps": ("'{ program '}",),
    "line": ("piece", "'forget NAME", "'book", "'alike NAME NAME", "'parting NAME NAME", "'ends NAME",
             "'unreached NAME", "'quiet NAME", "'lean NAME", "'classes", "'play program"),
}
CLASSES = {
    "NAME": re.compile(r"[a-z]{1,8}"),
    "INTEGER": re.compile(r"0|[1-9][0-9]?"),
    "VALUE": re.compile(r"0|[1-9][0-9]{0,3}"),
    "SOURCE": re.compile(r"[a-z]{1,8}|0|[1-9][0-9]?"),
    "KIND": re.compile(r"context|token"),
}


def opened(stacks):
    """The stacks with a word or a class of words on top, and empty ones, that come of these."""
    found, left = set(), list(stacks)
    while left:
        stack = left.pop()
        if stack and stack[0] in GRAMMAR:
            left.extend([tuple(way.split()) + stack[1:] for way in GRAMMAR[stack[0]]])
        else:
            found.add(stack)
    return found


def allows(top, word):
    return word == top[1:] if top[0] == "'" else CLASSES[top].fullmatch(word) is not None


def expected_place(text, whole):
    """The number of the first word of a text that is wrong by the grammar, or None."""
    words = re.findall(r"[a-z0-9]+|[^ \n]", text)
    stacks, braces = opened({(whole,)}), 0
    for number, word in enumerate(words):
        if word == "{" and braces == 40:
            return number
        stacks = opened({stack[1:] for stack in stacks if stack and allows(stack[0], word)})
        if not stacks:
            return number
        braces += {"{": 1, "}": -1}.get(word, 0)
    return None if () in stacks else len(words)
