"""Which tokens a draft leaves ([19])."""

from wakingacts.standings import draft_steps


def least_left(draft, token):
    """The least line of which the draft makes a line with this token, or None."""
    tokens = sorted(set((*draft.named, token)))
    for _, line, made, _ in draft_steps(draft, tokens):
        if token in made:
            return line
    return None
