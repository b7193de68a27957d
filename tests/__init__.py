"""The tests of pressnotes. They use only what the document's interface names."""
