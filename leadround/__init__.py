"""Leadround: rows that go on for ever by a lead and a round."""
