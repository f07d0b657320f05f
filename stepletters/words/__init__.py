"""Letters, words and sums of words."""
