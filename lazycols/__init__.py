"""Lazycols: tables that reckon only what is looked at."""
