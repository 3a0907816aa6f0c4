"""Sealed orders: powers hand in their orders in secret, and an umpire opens all of them at once."""
