"""Linkedfaults: the least chance that nothing happens, in all worlds."""
