"""A shelf that keeps forms by names."""
