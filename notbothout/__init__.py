"""Rules of two sides, kept by hands that see only their own."""
