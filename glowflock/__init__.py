"""Glowflock: worms that glow, and push one another until they glow as one."""
