"""Tables of 1 and -1 whose rows are balanced two by two."""
