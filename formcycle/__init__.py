"""Formcycle: forms of two numbers, the turns between them, and the numbers that they take."""
