"""Drillrow: recolouring calls on a row of people."""
