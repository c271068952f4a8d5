"""One zone, one quarter: orders, and the prices that support."""
