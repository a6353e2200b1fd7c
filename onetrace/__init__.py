"""Units that do the same, and papers that show it."""
