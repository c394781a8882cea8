"""Nocrossing: points of a ring parted into blocks that never cross."""
