"""A desk, which holds benches by names and answers lines."""

from tracklay.bench import Bench
from tracklay.errors import BadName, Known, NoBench
from tracklay.lines import answer
from tracklay.nets import is_name
from tracklay.pages import bench_of, page as page_of


class Desk:
    """Benches by names, in the order in which they came."""

    def __init__(self):
        self.benches = {}

    def open_one(self, name, slots, tracks=3):
        """A bench comes."""
        self.look_at_name(name)
        self.benches[name] = Bench(slots, tracks)

    def read(self, name, text):
        """A bench comes that a page writes."""
        self.look_at_name(name)
        self.benches[name] = bench_of(text)

    def copy_one(self, name, other):
        """A bench comes under another name, a twin of one that is there."""
        bench = self.bench(name)
        self.look_at_name(other)
        self.benches[other] = bench.twin()

    def close(self, name):
        """A bench goes."""
        self.bench(name)
        del self.benches[name]

    def names(self):
        """The names of the benches."""
        return list(self.benches)

    def view(self, name):
        """A twin of a bench."""
        return self.bench(name).twin()

    def page(self, name):
        """The page of a bench."""
        return page_of(self.bench(name))

    def deed(self, name, row):
        """Do a deed in a bench; what it tells."""
        return self.bench(name).deed(row)

    def back(self, name):
        """Take a bench's last deed back."""
        self.bench(name).back()

    def again(self, name):
        """Do again what was taken back last in a bench."""
        self.bench(name).again()

    def say(self, line):
        """Answer a line."""
        return answer(self, line)

    def bench(self, name):
        """The bench of a name."""
        if name not in self.benches:
            raise NoBench(f"no bench of the name: {name}")
        return self.benches[name]

    def look_at_name(self, name):
        """Refuse a name that no new bench may have."""
        if not is_name(name):
            raise BadName("a name that is no text of 1 to 8 small letters")
        if name in self.benches:
            raise Known(f"there is a bench of the name: {name}")

    def __len__(self):
        return len(self.benches)
