"""Passyards: trains on a line of tracks and yards, and which of them can ever change order."""
