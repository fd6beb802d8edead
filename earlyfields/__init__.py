"""Earlyfields: whether a class that nobody has written yet can see an object half built."""
