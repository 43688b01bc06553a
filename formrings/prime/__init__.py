"""Forms modulo primes."""
