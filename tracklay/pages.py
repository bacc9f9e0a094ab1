"""Pages: benches written as texts."""

from tracklay.bench import Bench
from tracklay.errors import Absent, LayError, NoPage
from tracklay.rows import deed_of, number_of_word


def page(bench):
    """The text of a bench: its size and the deeds that it keeps."""
    return str(bench)


def bench_of(text):
    """The bench that a page writes, with nothing to do again."""
    rows = text.split("\n")
    bench = bench_of_row(rows[0])
    for number, row in enumerate(rows[1:], start=1):
        try:
            bench.deed(deed_of(row))
        except (LayError, Absent):
            raise NoPage(number) from None
    return bench


def bench_of_row(row):
    """The bench without deeds that a page's first row writes."""
    words = row.split(" ")
    numbers = [number_of_word(word) for word in words[1:]]
    if words[0] != "bench" or len(numbers) != 2 or None in numbers:
        raise NoPage(0)
    try:
        return Bench(numbers[0], numbers[1])
    except LayError:
        raise NoPage(0) from None
