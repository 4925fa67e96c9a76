"""Stepgrove: rules that step along a change, and the trees that tell how good they are."""
