"""Fieldrides: merging books for the records of a store."""
