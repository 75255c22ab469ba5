"""The refusals, one class for each, all straight under FormError."""


class FormError(ValueError):
    """Any refusal."""


class NoPlace(FormError):
    """A tree does not have the place that is asked for."""


class BadText(FormError):
    """A text is not the writing of a tree."""


class TooLong(FormError):
    """Something has, or would have, more than is allowed."""


class BadPaper(FormError):
    """A step or the end of a paper does not follow."""


class BadName(FormError):
    """A text that should be a name is none."""


class Twice(FormError):
    """A form of that name is kept already."""


class NoForm(FormError):
    """No form of that name is kept."""
