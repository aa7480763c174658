"""Sets of numbered things, and the chains on which they lie."""
