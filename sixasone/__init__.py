"""Sixasone: one order of webs by six measures."""
