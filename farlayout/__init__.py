"""What a pretty printer does with documents whose text nobody can print."""
