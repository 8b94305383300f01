"""Latelink: a doubly linked list whose unlinked nodes keep their links."""
