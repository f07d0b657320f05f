"""Classes: closed sums up to steps."""
