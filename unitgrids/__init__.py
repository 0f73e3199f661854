"""Unitgrids: which outcomes mean the same in all units. Import each name from its own module."""
