"""Runpaint: pictures told by the runs of their rows and columns."""
