"""Tables and claims: what holds, and which rows break it."""
