"""Ringcubes: drawn strings, both smoothings of their crossings, and what stays."""
