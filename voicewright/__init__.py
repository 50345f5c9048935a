"""Voicewright: lines, canons, chords and exact musical time."""
