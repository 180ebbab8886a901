"""Nobodystays: turns that leave nobody in place."""
