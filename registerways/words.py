"""What the operations of the instructions give."""

NUMBER_OF_WORDS = 65536


def result_of(operation, x, y):
    """The word that an operation gives for two words."""
    if operation == "add":
        return (x + y) % NUMBER_OF_WORDS
    if operation == "sub":
        return (x - y) % NUMBER_OF_WORDS
    if operation == "mul":
        return (x * y) % NUMBER_OF_WORDS
    if operation == "less":
        return 1 if x < y else 0
    return 1 if x == y else 0
