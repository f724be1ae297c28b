"""Batches and culprits: which batches of items fail, and which items are to blame."""
