"""Line code run on exact fractions, derivatives summed backwards along its tape, and lines taken out."""
