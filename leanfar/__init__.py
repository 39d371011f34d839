"""Leanfar: what is believed from afar rests on something."""
