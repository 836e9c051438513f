"""Ownharm: harm stays with the room that did it. The names stand in the modules of this folder."""
