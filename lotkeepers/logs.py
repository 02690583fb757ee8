"""What was done in a house, and what was taken back."""

from lotkeepers.scenes import first_scene


class Log:
    """All deeds that stand, and those that were taken back. It never changes.

    scenes are how the house stood at first, and behind each deed; scene is the last one of
    them. undone are pairs of a deed that was taken back and the scene behind it, last ones last.
    """

    def __init__(self, deeds, scenes, undone):
        self.deeds = deeds
        self.scenes = scenes
        self.undone = undone
        self.scene = scenes[-1]

    def with_deed(self, deed, scene):
        """The log with a deed more. What was taken back cannot be done again behind it."""
        return Log(self.deeds + (deed,), self.scenes + (scene,), ())

    def taken_back(self):
        """The log without its last deed."""
        return Log(self.deeds[:-1], self.scenes[:-1], self.undone + ((self.deeds[-1], self.scene),))

    def done_again(self):
        """The log with the deed again that was taken back last."""
        deed, scene = self.undone[-1]
        return Log(self.deeds + (deed,), self.scenes + (scene,), self.undone[:-1])


def first_log(store):
    return Log((), (first_scene(store),), ())
