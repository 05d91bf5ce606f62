"""Income of a fund's classes."""
