"""Toldpast: synchronous networks of uninterpreted gates, compared from the first turn."""
