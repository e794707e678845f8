"""Who shares a room: good pairings of a group's guests, and the rings that prove there is none."""
