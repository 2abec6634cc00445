"""Redraw: wishes mended by drawing anew."""
