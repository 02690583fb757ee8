"""Lotkeepers: a store kept by asking lots of keepers."""
