"""Meetfolk: folk whose moods turn when two of them meet."""
