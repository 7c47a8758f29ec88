"""Text with tracked changes."""
