"""Line code run on exact fractions, its tape, and derivatives summed backwards along it."""
