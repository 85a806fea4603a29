"""Memory of tasks in leaves, twins and books: scripts of steps, decided for all values."""
