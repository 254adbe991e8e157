"""Rules of rewriting that hold for all programs."""
