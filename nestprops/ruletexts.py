"""Texts of rules."""


def show_set(names):
    """Return the text of a least set."""
    if len(names) == 0:
        return "always"
    if len(names) == 1:
        return names[0]
    joined = " , ".join(names)
    return f"all ( {joined} )"


def show_rule(rule):
    """Return the text of a rule."""
    texts = [show_set(names) for names in rule.least]
    if len(texts) == 0:
        return "never"
    if len(texts) == 1:
        return texts[0]
    joined = " , ".join(texts)
    return f"any ( {joined} )"
