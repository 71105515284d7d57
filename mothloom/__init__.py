"""Mothloom: a weaver, a moth, and papers that say who has the better of it."""
