"""Promises: what should hold of the places of floors."""

from overfloors.formulas import Formula
from overfloors.ratios import ratio_of


class Never:
    """The promise that a formula has no place."""

    def __init__(self, text):
        self._formula = Formula(text)
        self.text = text

    def is_kept(self, floors):
        """True if it holds of the floors of a dict."""
        return not self._formula.places(floors)


class Always:
    """The promise that all places of a formula are places of a wider one."""

    def __init__(self, text, wider):
        self._formula = Formula(text)
        self._wider = Formula(wider)
        self.text = text
        self.wider = wider

    def is_kept(self, floors):
        """True if it holds of the floors of a dict."""
        places = self._formula.places(floors)
        return places.inside(self._wider.places(floors))


class Thick:
    """The promise that the thickness of a formula lies from one number to another one."""

    def __init__(self, text, low, high):
        self._formula = Formula(text)
        self.text = text
        self.low = ratio_of(low)
        self.high = ratio_of(high)

    def is_kept(self, floors):
        """True if it holds of the floors of a dict."""
        thick = self._formula.places(floors).thick()
        return self.low <= thick and thick <= self.high
