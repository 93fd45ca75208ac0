"""Onceroad: games on a web in which no place, or no tie, is gone twice."""
