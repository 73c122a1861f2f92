"""Plainmark: plain texts with marks."""
