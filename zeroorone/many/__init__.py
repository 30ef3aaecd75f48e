"""Forms: polynomials in some letters."""
