"""Pressnotes: numbered notes printed, bundled, out and back, by a book of pages."""
