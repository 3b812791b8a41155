"""How rows are shown as a text."""


def row_text(label, words):
    """A row of its own name, if it has one, and its words, one blank between."""
    named = [f"{label}:"] if label else []
    return " ".join(named + words)


def box_texts(boxes):
    """Boxes as they stand in a row."""
    return [f"r{box}" for box in boxes]


def sum_text(parts):
    """A sum as it stands in a row, of (sign, number or name) of all its parts."""
    text = ""
    for sign, part in parts:
        if sign < 0:
            text += "-"
        elif text:
            text += "+"
        text += str(part)
    return text
