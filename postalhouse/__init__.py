"""A postal house: four offices that carry, sort and deliver items, and account for them."""
