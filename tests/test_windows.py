"""Windows: point 40."""

import unittest
from random import Random

import histories
import slow_tiles
from making import refusal
from test_views import some_view

from easelwork.documents import Document
from easelwork.history import History
from easelwork.kept import Kept
from easelwork.layers import layer
from easelwork.levels import level_size
from easelwork.regions import Region
from easelwork.stamps import dirty
from easelwork.views import BACK, shown, source, view_level
from easelwork.windows import Window

DOT = (5, 5, 5, 5)


class Watched(Kept):
    """A Kept that remembers what it was asked for from outside."""

    def __init__(self, side, room=100000):
        Kept.__init__(self, side, room=room)
        self.asked = []

    def ask(self, history, state, number, level, i, j):
        self.asked.append((state, number, level, i, j))
        return Kept.ask(self, history, state, number, level, i, j)


def begun(wide=4, high=4):
    return History(Document(wide, high, layer(0, "group", layer(1, "paint"))))


def put(x, y, pixel=DOT):
    return ("put", 1, ((x, y, pixel),))


def screen_of(view):
    return [(a, b) for b in range(view[1]) for a in range(view[0])]


def tiles_of(document, view, places, side):
    """The tiles of number 0 that hold the sources of these places of the screen."""
    level = view_level(document.wide, document.high, view)
    wide, high = level_size(document.wide, document.high, level)
    found = [source(view, level, a, b) for a, b in places]
    return {(0, level, x // side, y // side) for x, y in found if 0 <= x < wide and 0 <= y < high}


class OpenTest(unittest.TestCase):
    def test_views_out_of_range(self):
        history = begun()
        kept = Kept(2)
        for view in ((0, 1, 1, 1, 0, 0), (65, 1, 1, 1, 0, 0), (1, 1, 17, 1, 0, 0), (1, 1, 1, 0, 0, 0),
                     (1, 1, 1, 1, 4097, 0), (1, 1, 1, 1, 0, -4097), (1, 1, 1, 1, 0), ()):
            self.assertEqual(refusal(Window, history, kept, view), ("BadValue", "view"))
        self.assertEqual((len(kept), kept.painted), (0, 0))

    def test_a_new_window_shows_the_present_state(self):
        history = begun()
        history.act(put(0, 0))
        window = Window(history, Kept(3), (2, 1, 1, 1, -1, 0))
        self.assertEqual((window.view, window.state, window.image), ((2, 1, 1, 1, -1, 0), 1, ((BACK, DOT),)))

    def test_a_window_stays_as_it_is(self):
        history = begun()
        window = Window(history, Kept(3), (4, 4, 1, 1, 0, 0))
        image = window.image
        history.act(put(0, 0))
        self.assertEqual((window.state, window.image), (0, image))


class RefreshTest(unittest.TestCase):
    def test_only_changed_pixels_are_made(self):
        history = begun()
        kept = Watched(2)
        window = Window(history, kept, (6, 6, 1, 1, -1, -1))
        kept.asked = []
        history.act(put(1, 2))
        history.act(put(3, 0))
        self.assertEqual(window.refresh().rects(), ((4, 1, 5, 2), (2, 3, 3, 4)))
        self.assertEqual({tile[1:] for tile in kept.asked}, {(0, 0, 0, 1), (0, 0, 1, 0)})
        self.assertEqual((window.state, window.image), (2, shown(history.document, window.view)))

    def test_an_empty_change_makes_nothing(self):
        history = begun()
        kept = Watched(2)
        window = Window(history, kept, (4, 4, 1, 1, 0, 0))
        kept.asked = []
        self.assertEqual(window.refresh(), Region.empty())
        history.act(("set", 1, "name", "x"))
        history.act(put(-1, 0))
        self.assertEqual((window.refresh(), window.state, kept.asked), (Region.empty(), 2, []))

    def test_changes_that_take_each_other_back_are_made(self):
        history = begun()
        window = Window(history, Kept(2), (4, 4, 1, 1, 0, 0))
        image = window.image
        history.act(put(1, 1))
        history.act(put(1, 1, (0, 0, 0, 0)))
        self.assertEqual((window.refresh().rects(), window.image), (((1, 1, 2, 2),), image))

    def test_everything(self):
        history = begun()
        kept = Watched(2)
        window = Window(history, kept, (3, 3, 1, 2, 0, 0))
        kept.asked = []
        history.act(("size", 1, 1))
        self.assertEqual(window.refresh().rects(), ((0, 0, 3, 3),))
        self.assertEqual({tile[:3] for tile in kept.asked}, {(1, 0, 0)})
        self.assertEqual(window.image, shown(history.document, window.view))
        history.go(0)
        self.assertEqual((window.refresh().rects(), window.state), (((0, 0, 3, 3),), 0))
        self.assertEqual(window.image, shown(history.document, window.view))

    def test_along_branches(self):
        history = begun()
        history.act(put(0, 0))
        window = Window(history, Kept(2), (4, 4, 1, 1, 0, 0))
        history.undo()
        history.act(put(3, 3))
        self.assertEqual(window.refresh().rects(), ((0, 0, 1, 1), (3, 3, 4, 4)))
        self.assertEqual(window.image, shown(history.document, window.view))


class ScrollTest(unittest.TestCase):
    def test_what_comes_in_is_made(self):
        history = begun()
        history.act(put(2, 2))
        kept = Watched(2)
        window = Window(history, kept, (3, 3, 1, 1, 0, 0))
        kept.asked = []
        self.assertEqual(window.scroll(1, -1).rects(), ((0, 0, 3, 1), (2, 1, 3, 3)))
        self.assertEqual((window.view, window.image), ((3, 3, 1, 1, 1, -1), shown(history.document, (3, 3, 1, 1, 1, -1))))
        self.assertEqual({tile[1:] for tile in kept.asked}, {(0, 0, 1, 0)})

    def test_by_nothing_and_by_more_than_the_screen(self):
        history = begun()
        kept = Watched(2)
        window = Window(history, kept, (3, 2, 1, 1, 0, 0))
        kept.asked = []
        self.assertEqual((window.scroll(0, 0), kept.asked), (Region.empty(), []))
        for dx, dy in ((3, 0), (-3, 0), (0, 2), (0, -2), (-4096, 4096), (8192, -8192)):
            self.assertEqual(window.scroll(dx, dy).rects(), ((0, 0, 3, 2),))
            self.assertEqual(window.image, shown(history.document, window.view))

    def test_the_state_stays(self):
        history = begun()
        window = Window(history, Kept(2), (3, 3, 1, 1, 0, 0))
        history.act(put(3, 1))
        window.scroll(1, 0)
        self.assertEqual((window.state, window.image), (0, shown(history.document_at(0), window.view)))
        window.turn_to((4, 4, 1, 1, 0, 0))
        self.assertEqual((window.state, window.image), (0, shown(history.document_at(0), window.view)))
        window.refresh()
        self.assertEqual((window.state, window.image), (1, shown(history.document, window.view)))

    def test_views_out_of_range(self):
        history = begun()
        window = Window(history, Kept(2), (3, 3, 1, 1, 4096, -4096))
        image = window.image
        for dx, dy in ((1, 0), (0, -1), (10 ** 30, 0), (0, -10 ** 30), (-8193, 0)):
            self.assertEqual(refusal(window.scroll, dx, dy), ("BadValue", "view"))
        for view in ((3, 3, 1, 1, 4097, 0), (3, 3, 1, 1, 0), (0, 3, 1, 1, 0, 0)):
            self.assertEqual(refusal(window.turn_to, view), ("BadValue", "view"))
        self.assertEqual((window.view, window.state, window.image), ((3, 3, 1, 1, 4096, -4096), 0, image))
        self.assertIsNone(window.turn_to((1, 1, 16, 16, 0, 0)))


class GuaranteeTest(unittest.TestCase):
    def test_images_regions_and_tiles_over_many_calls(self):
        for seed in range(60):
            chance = Random(seed)
            history = histories.some_history(chance, 4, chance.randint(1, 7), chance.randint(1, 7), deep=1)
            kept = Watched(chance.randint(1, 16), chance.choice((0, 1, 3, 40)))
            window = Window(history, kept, some_view(chance))
            self.check(window, history, kept, screen_of(window.view))
            for _ in range(12):
                histories.grown(chance, history, chance.randint(0, 3))
                kept.asked = []
                self.call(chance, window, history, kept)
                if chance.randint(0, 3) == 0:
                    kept.throw_out(2)

    def call(self, chance, window, history, kept):
        before, state, view = window.image, window.state, window.view
        word = chance.choice(("refresh", "refresh", "scroll", "turn_to"))
        if word == "refresh":
            region = window.refresh()
            self.assertEqual(window.state, history.now)
            made = self.refreshed(history, state, view)
            for a, b in screen_of(view):
                if before[b][a] != window.image[b][a]:
                    self.assertIn((a, b), region)
        elif word == "scroll":
            dx, dy = chance.randint(-10, 10), chance.randint(-10, 10)
            region = window.scroll(dx, dy)
            self.assertEqual((window.state, window.view), (state, view[:4] + (view[4] + dx, view[5] + dy)))
            made = [(a, b) for a, b in screen_of(view) if not (0 <= a + dx < view[0] and 0 <= b + dy < view[1])]
        else:
            self.assertIsNone(window.turn_to(some_view(chance)))
            region = Region.of([(0, 0) + window.view[:2]])
            self.assertEqual(window.state, state)
            made = screen_of(window.view)
        self.assertEqual(list(region.places()), made)
        self.check(window, history, kept, made)

    def refreshed(self, history, state, view):
        """The places of the screen that a refresh makes."""
        dirt = [dirty(history, u, 0) for u in history.way(state, history.now)]
        document = history.document
        if any(region.endless for region in dirt):
            return screen_of(view)
        level = view_level(document.wide, document.high, view)
        sources = [(place, source(view, level, *place)) for place in screen_of(view)]
        return [place for place, at in sources if any(slow_tiles.is_touched(region, level, [at]) for region in dirt)]

    def check(self, window, history, kept, made):
        document = history.document_at(window.state)
        self.assertEqual(window.image, shown(document, window.view))
        self.assertEqual({tile[1:] for tile in kept.asked}, tiles_of(document, window.view, made, kept.side))
        self.assertTrue(all(tile[0] == window.state for tile in kept.asked))

    def test_two_windows_of_one_state_are_alike(self):
        for seed in range(15):
            chance = Random(seed)
            history = histories.some_history(chance, 6)
            one = Window(history, Kept(3, room=0), some_view(chance))
            two = Window(history, Kept(16), some_view(chance))
            histories.grown(chance, history, 4)
            one.scroll(2, -1)
            two.refresh()
            histories.grown(chance, history, 4)
            one.refresh()
            two.turn_to(one.view)
            two.refresh()
            self.assertEqual((one.state, one.image), (two.state, two.image))


if __name__ == "__main__":
    unittest.main()
