"""Lateledger: a market with double books, in which truths come late."""
