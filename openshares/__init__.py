"""Openshares: who together may open a secret, and with how few numbers."""
