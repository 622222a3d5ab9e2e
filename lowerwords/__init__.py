"""Codes made of products of letters, and what their choices tell."""
