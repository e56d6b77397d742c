"""Cellpatches: patches of like cells."""
