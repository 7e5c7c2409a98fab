"""Warmsteps: steps that are exchanged while they run, decided for all programs."""
