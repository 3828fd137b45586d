"""Samepaper: outcomes that are borne out by papers."""
