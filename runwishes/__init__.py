"""Runs of events and wishes about them; runwishes.runs.answers is the way in."""
