"""Laterways: days of meetings whose ways get longer or shorter by the hour."""
