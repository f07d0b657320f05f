"""Letters with degrees, and steps that are nothing when done twice."""
