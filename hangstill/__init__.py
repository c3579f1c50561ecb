"""Hangstill: hanging balances."""
