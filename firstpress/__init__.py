"""Who was first: what is sure of true times, from stamps of clocks that nobody has set."""
