"""Plotpens: what a toggling pen draws, and with how few strokes it can be drawn again."""
