"""One player calls a distance, the other picks the direction."""
