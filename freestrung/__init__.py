"""Freestrung: evenings of marionettes that a crew can play, whatever is called."""
