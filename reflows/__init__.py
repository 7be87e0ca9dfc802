"""Reflows: lines wrapped, joined and quoted again and again."""
