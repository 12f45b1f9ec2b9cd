"""Windows: screens that show a state of a history, made from kept tiles."""

from easelwork.levels import level_size
from easelwork.rects import holds
from easelwork.regions import Region
from easelwork.stamps import dirty
from easelwork.views import BACK, check_view, screen_rects, source, view_level


class Window:
    """A screen with the view and the state that it shows."""

    def __init__(self, history, kept, view):
        check_view(view)
        self._history = history
        self._kept = kept
        self.view = view
        self.state = history.now
        self._image = ()
        self._make_all()

    @property
    def image(self):
        """The block of the screen."""
        return self._image

    def refresh(self):
        """Takes the window to the present state; returns the region of the screen that was made anew."""
        now = self._history.now
        changed = Region.empty()
        for state in self._history.way(self.state, now):
            changed = changed | dirty(self._history, state, 0)
        self.state = now
        if changed.endless:
            return self._make_all()
        if not changed:
            return changed
        document = self._history.document
        level = view_level(document.wide, document.high, self.view)
        for _ in range(level):
            changed = changed.halved()
        made = Region.of(screen_rects(self.view, level, changed))
        self._make(self._image, made)
        return made

    def scroll(self, dx, dy):
        """Moves the view over the picture; returns the region of the screen that was made."""
        wide, high, num, den, ox, oy = self.view
        view = (wide, high, num, den, ox + dx, oy + dy)
        check_view(view)
        self.view = view
        screen = Region.of([(0, 0, wide, high)])
        made = screen - screen.moved(-dx, -dy)
        self._make(_moved(self._image, dx, dy), made)
        return made

    def turn_to(self, view):
        """Shows another view of the same state."""
        check_view(view)
        self.view = view
        self._make_all()

    def _make_all(self):
        """Makes the whole screen; returns its region."""
        wide, high = self.view[:2]
        made = Region.of([(0, 0, wide, high)])
        self._make(((BACK,) * wide,) * high, made)
        return made

    def _make(self, image, region):
        """Makes the pixels of this region of the screen; all others are those of the image."""
        pixels = self._pixels(list(region.places()))
        self._image = tuple([
            tuple([pixels.get((a, b), pixel) for a, pixel in enumerate(row)]) for b, row in enumerate(image)
        ])

    def _pixels(self, screen):
        """The table from these places of the screen to their pixels at the state of the window."""
        document = self._history.document_at(self.state)
        level = view_level(document.wide, document.high, self.view)
        wide, high = level_size(document.wide, document.high, level)
        side = self._kept.side
        tiles = {}
        pixels = {}
        for a, b in screen:
            x, y = source(self.view, level, a, b)
            if not holds((0, 0, wide, high), x, y):
                pixels[(a, b)] = BACK
                continue
            i = x // side
            j = y // side
            if (i, j) not in tiles:
                tiles[(i, j)] = self._kept.ask(self._history, self.state, 0, level, i, j)
            pixels[(a, b)] = tiles[(i, j)][y - j * side][x - i * side]
        return pixels


def _moved(image, dx, dy):
    """The image with each pixel moved by (-dx, -dy); BACK where none comes from."""
    wide = len(image[0])
    high = len(image)
    return tuple([
        tuple([
            image[b + dy][a + dx] if holds((0, 0, wide, high), a + dx, b + dy) else BACK for a in range(wide)
        ])
        for b in range(high)
    ])
