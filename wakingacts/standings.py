"""The standings that a draft can have ([17]), gone through in the order of [18]."""

from wakingacts.errors import TooMany

MOST = 600


def draft_steps(draft, tokens):
    """Each step of the draft from a standing that it can have: the standing, the least line up to and with the token
    that is read, what this token is changed into, and the standing behind it.

    A step is told ahead of counting the standing behind it, so that who looks for something finds it first.
    """
    lines = {draft.beginning: ()}
    standings = [draft.beginning]
    at = 0
    while at < len(standings):
        standing = standings[at]
        for token in tokens:
            made, behind = draft.read_token(standing, token)
            line = (*lines[standing], token)
            yield standing, line, made, behind
            if behind not in lines:
                if len(standings) == MOST:
                    raise TooMany("standing")
                lines[behind] = line
                standings.append(behind)
        at += 1
