"""The texts of code."""


def show_code(code):
    """The text of code."""
    return "\n".join([" ".join([str(item) for item in row]) for row in code.rows])
