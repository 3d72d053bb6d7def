"""Coneroom: all whole solutions from one room of mirrors."""
