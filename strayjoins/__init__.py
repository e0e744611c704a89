"""Strayjoins: what the answers of a board tell about its wires."""
