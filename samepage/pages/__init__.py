"""Pages: the reader, the tokens that it returns, and the shortest page of given tokens."""
