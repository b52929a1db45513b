"""Deadlevers: trials of levers that may be stuck."""
