"""How evenly every part of a table splits, by signs, roundings and mixes."""
