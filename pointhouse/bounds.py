"""The words and numbers that several parts of the program share."""

SIGNS = "signs"

WAYS = ("signs", "near")

RULES = (
    "made", "round", "along", "upright", "mirror", "turned",
    "rowed", "ringed", "linked", "passed", "squared", "sided",
    "bent", "straight", "halved", "between", "kept", "legs",
    "sides", "seen", "rounded", "carried", "corners", "thales",
)

ROWS = 60
