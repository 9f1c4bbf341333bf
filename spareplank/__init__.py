"""Spareplank: one great row of blocks on planks that may be lost."""
