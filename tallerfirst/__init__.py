"""Tallerfirst: a queue whose first person goes behind the first taller one."""
