"""Forms with threefold middle coefficients."""
