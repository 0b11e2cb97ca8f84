"""Typedahead: a helper for texts that are being written."""
