"""What stands under keys: a shelf is a dict of pictures or of streams by their keys."""

from packedframes.refusals import MISSING, OUT_OF_RANGE, is_key

MOST_PICTURES = 6
MOST_STREAMS = 6


def keys_refusal(shelf, keys):
    """Why something of these keys isn't on a shelf, or 0 if all is."""
    if not all([is_key(key) for key in keys]):
        return OUT_OF_RANGE
    if not all([key in shelf for key in keys]):
        return MISSING
    return 0


def key_refusal(shelf, key):
    """Why there's nothing of this key on a shelf, or 0 if there is."""
    return keys_refusal(shelf, [key])


def is_full(shelf, key, most):
    """Whether a key would be one too many; what's under a key already may always be replaced."""
    return key not in shelf and len(shelf) >= most


def told_keys(shelf):
    """How many keys there are on a shelf, then they, rising."""
    return [len(shelf)] + sorted(shelf)
