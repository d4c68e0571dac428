"""Steamlinks: valves, eccentrics and reversing links of steam engines, decided for all crank angles."""
