"""Functions of two inputs: their rounds, their depth, their least readings."""
