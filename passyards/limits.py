"""The limits of the package."""

MOST = 500
