"""Phialhouse: a dispensary whose recipes become rows at a bench, and whose every dose can be traced."""
