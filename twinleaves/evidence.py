"""What classes of evidence do with what they are given."""


def new_list(told):
    """A new list of a list or tuple."""
    return list(told) if isinstance(told, (list, tuple)) else told


def new_dict(told):
    """A new dict like a dict."""
    return {key: told[key] for key in told} if isinstance(told, dict) else told
