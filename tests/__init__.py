"""The tests of cellscript."""
