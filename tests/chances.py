"""Houses by chance with faults in them, always the same ones of one seed."""

import oracle
from typedahead.texts import is_text

PUTS = ("", "", "a", "=", "(", ")", "[", "]", ",", " + ", " at ", "if ", " then ", " else ", "1", "yes", '"', ";", "\n",
        "take main\n", "let a = ", "num ", " b ")


def spoiled(chance, house):
    """The house with a few edits of each text by chance."""
    told = []
    for file, text in house:
        for _ in range(chance.choice((0, 0, 1, 2))):
            at = chance.randrange(len(text) + 1)
            other = text[:at] + chance.choice(PUTS) + text[at + chance.choice((0, 0, 1, 2, 3)):]
            text = other if is_text(other) else text
        told.append((file, text))
    return tuple(told)


def faulty_house(chance):
    return spoiled(chance, oracle.chance_house(chance))


def full_house(chance):
    """Six full files, each taking the others, of rows of up to 60 signs, with many faults in them."""
    files = ("fa", "fb", "fc", "fd", "fe", "ff")
    names = [first + second for first in "abcdef" for second in "abcdefghijklmnopqrs"]
    texts, made = [], []
    for at, file in enumerate(files):
        rows = ["take " + other for other in files if other != file]
        for name in names[at * 19:at * 19 + 19]:
            row = chance.choice(("let {} = ", "let {} = ", "def {}(x num, y num) = ")).format(name)
            parts = []
            while len(row + " + ".join(parts)) < 50:
                odd = chance.random() < 0.1
                parts.append(chance.choice(('"w"', "zz", "yes", "[")) if odd else chance.choice(made[-40:] + ["12"]))
            rows.append((row + " + ".join(parts))[:60])
            made += [name] if row.startswith("let") else []
        texts.append("\n".join(rows))
    return tuple(zip(files, texts))
