"""Quietpairs: partners within one group, and the odd rings that stand in the way."""
