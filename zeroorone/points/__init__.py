"""What is known of the points at which forms are 0."""
