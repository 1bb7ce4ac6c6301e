"""A notebook's outline: sections in sections, moved as trees, numbered anew."""
