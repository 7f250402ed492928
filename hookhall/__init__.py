"""Hookhall: a hall into which others hang their work."""
