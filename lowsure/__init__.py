"""Lowsure, a small compiler for values of which only the low bits are looked at."""
