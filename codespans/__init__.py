"""Tables that tell the source position of every step of a compiled code."""
