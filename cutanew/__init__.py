"""Tokens, comments and stretches of a text under edits."""
