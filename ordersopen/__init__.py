"""Expressions whose order of evaluation is partly open."""
