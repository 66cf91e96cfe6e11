"""Truceroll: which sayings clash, which can stand together, and why."""
