"""Primes, divisors and orders."""
