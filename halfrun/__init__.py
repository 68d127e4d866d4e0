"""Halfrun: programs worked out as far as some inputs lead."""
