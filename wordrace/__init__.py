"""Wordrace: words of thrown signs, how long one waits for them, and which comes first."""
