"""May it go: broken equipment, days, repairs."""
