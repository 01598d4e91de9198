"""Chancetongue: books of chances, asked anew behind each change."""
