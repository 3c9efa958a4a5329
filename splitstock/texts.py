"""Numbers and catalogues as texts."""

NO_NUMBERS = "-"


def show_numbers(numbers):
    """The text of a dict of numbers, in string order of the names."""
    words = [f"{name}:{numbers[name]}" for name in sorted(numbers) if numbers[name] > 0]
    return " ".join(words) if words else NO_NUMBERS


def show_catalogue(catalogue):
    """The text of a catalogue, its entries in order."""
    return ", ".join([show_entry(name, weight, parts) for name, weight, parts in catalogue])


def show_entry(name, weight, parts):
    """The text of one entry of a catalogue."""
    return " ".join([name, str(weight), *parts])
