"""Steadymixes: two sides choose at once, by chances, and neither gains by another mix."""
