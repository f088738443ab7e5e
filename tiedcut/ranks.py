"""How often a number can be halved."""


def rank(many):
    """How often many, from 1, can be halved, rounded down, until it is 1."""
    return many.bit_length() - 1
