"""Peristyle: a columnar query engine with an optimiser."""
