"""Errors: every failure of the kernel is a KernelError, which is a ValueError."""


class KernelError(ValueError):
    """The base of all errors of this package."""


class TextError(KernelError):
    """A text forms no term, declaration or script."""


class TermError(KernelError):
    """A term is not well formed, or too large."""


class NameFault(KernelError):
    """A name is unknown, or declared twice."""


class KindFault(KernelError):
    """A term has no kind, or another one than it must."""


class DataFault(KernelError):
    """A declaration of data is refused."""


class HoleFault(KernelError):
    """What a hole stands for cannot be found."""


class StepFault(KernelError):
    """A step of a proof does not fit its goal."""


class FileFault(KernelError):
    """Bytes form no file, or a file does not fit what it imports."""


class WorkFault(KernelError):
    """A reckoning takes too many steps."""
