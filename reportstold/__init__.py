"""Reports of a laboratory, and who was told what."""
