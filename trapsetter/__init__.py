"""Trapsetter: pages set by request lines."""
