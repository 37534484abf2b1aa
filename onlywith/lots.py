"""Lots, and when they stand and are groups ([E1] to [E4])."""

from onlywith.bounds import MAX_POOL
from onlywith.errors import TooMany
from onlywith.members import Crowd
from onlywith.questions import is_answer_on
from onlywith.terms import is_integer, is_tuple
from onlywith.wishes import placed_writes, sorted_facts
