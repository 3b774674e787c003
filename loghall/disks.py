"""A disk of files, which may stop at any step."""

from loghall.errors import NoFile, Stopped


class Disk:
    """Files, texts by names, and a plan of when it stops."""

    def __init__(self, stops):
        self.contents = {}
        self.stops = stops
        self.past_stops = 0
        # Counted from the last stop on.
        self.steps_done = 0

    def step(self):
        """Begins a step; Stopped if the disk stops here."""
        if self.past_stops == len(self.stops):
            return
        if self.steps_done == self.stops[self.past_stops]:
            self.past_stops += 1
            self.steps_done = 0
            raise Stopped("the disk stopped")
        self.steps_done += 1

    def put_behind(self, name, text):
        """Puts a text behind that of a file, which may be a new one, a sign in a step."""
        for sign in text:
            self.step()
            self.contents[name] = self.contents.get(name, "") + sign

    def rename(self, name, goal):
        """Gives a file another name, in the place of the one that had it; NoFile."""
        text = self.text(name)
        self.step()
        del self.contents[name]
        self.contents[goal] = text

    def cut(self, name, many):
        """Keeps so many first signs of a file alone; NoFile."""
        text = self.text(name)
        self.step()
        self.contents[name] = text[:many]

    def drop(self, name):
        """Lets a file go; NoFile."""
        self.text(name)
        self.step()
        del self.contents[name]

    def text(self, name):
        """The text of a file; NoFile."""
        if name not in self.contents:
            raise NoFile(f"no file has the name {name!r}")
        return self.contents[name]

    def files(self):
        """The names of all files, rising."""
        return tuple(sorted(self.contents))
