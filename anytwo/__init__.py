"""Anytwo: programs over any many things, and rules that speak of two of them."""
