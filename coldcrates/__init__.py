"""Coldcrates: a cold store whose crates were moved."""
