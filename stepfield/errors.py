"""The refusals of Stepfield, one class for each."""


class FieldError(ValueError):
    pass


class BadWidth(FieldError):
    pass


class TooMany(FieldError):
    pass


class BadStep(FieldError):
    pass


class Unlike(FieldError):
    pass


class NoField(FieldError):
    pass
