"""Fewthrows: results that can be checked with few throws."""
