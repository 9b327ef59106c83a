"""The lines of acts ([11])."""

from wakingacts.lines import Lines
from wakingacts.tokens import label_text


def text_line(first, text):
    """The line of a text, with this word ahead of it."""
    return " ".join([first, *text])


def act_lines(name, rows):
    """The lines of one act."""
    return [f"act {name}"] + [text_line(label_text(labels), text) for labels, text in rows] + ["end"]


def write_acts(acts):
    """The lines of these acts."""
    return tuple([line for name, rows in acts for line in act_lines(name, rows)])


def read_act(reader):
    """The next act of the reader."""
    reader.take_word("act")
    name = reader.take_name()
    reader.leave_line()
    rows = []
    while not reader.begins_with("end"):
        labels = reader.take_labels()
        rows.append((labels, reader.take_text()))
    reader.take_word("end")
    reader.leave_line()
    return name, tuple(rows)


def read_acts(lines):
    """The acts that these lines tell."""
    reader = Lines(lines)
    acts = []
    while not reader.all_read():
        acts.append(read_act(reader))
    return tuple(acts)
