"""Errors: every failure is a HostError, which is a ValueError."""


class HostError(ValueError):
    """The base of all errors of this package."""


class ContentError(HostError):
    """A content, a path or a tree is invalid."""


class GraphError(HostError):
    """A commit or a branch is not there, or cannot be used so."""


class PatchError(HostError):
    """A patch does not fit, or a text is none."""


class RightError(HostError):
    """Somebody may not do that."""


class ReviewError(HostError):
    """A change, a vote or a rule is invalid."""


class CheckError(HostError):
    """A job or a plan of jobs is invalid."""


class QueryError(HostError):
    """A question is none."""


class BuildError(HostError):
    """Targets are invalid, or form a ring."""


class VersionError(HostError):
    """A version or a range is none, or no versions fit."""


class IssueError(HostError):
    """An issue is not there, or cannot be changed so."""


class ProofError(HostError):
    """A proof does not hold, or cannot be given."""


class HookError(HostError):
    """A hook or a delivery is invalid."""
