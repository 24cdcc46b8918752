"""Nestprops: which buildings can be changed into which, without a fall, with nested props."""
