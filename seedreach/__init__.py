"""Seedreach: like stretches of rows, found by seeds that lose none."""
