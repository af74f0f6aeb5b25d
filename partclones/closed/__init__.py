"""Closed sets of versions: gaps, closures, lots, derivations, tables and peeling."""
