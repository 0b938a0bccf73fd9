"""Mainskeep: a power house with lines that may fail, works that go on and off, and prices that close."""
