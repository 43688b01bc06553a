"""Classes of forms of degree two."""
