"""Unseenheap: programs that see nothing of the heap they run on."""
