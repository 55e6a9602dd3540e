"""Barclips: clips that begin at the bar."""
