"""Recurwright: calendars, days that come again, zones and plans."""
