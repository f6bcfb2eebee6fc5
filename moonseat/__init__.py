"""Moonseat: linked verse whose sheets can always be ended."""
