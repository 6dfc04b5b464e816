"""Stepfield: fields of points come to by whole many times of told steps."""
