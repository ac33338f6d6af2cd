"""Rainweeks: matches put off for rain, week after week."""
