"""Allitreaches: what tools can take away, and what they can't."""
