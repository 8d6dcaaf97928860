"""Programs of a small language, done and looked at from outside."""
