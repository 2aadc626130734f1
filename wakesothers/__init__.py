"""Wakesothers: what all sets of rules have in common that fit what was seen to wake."""
