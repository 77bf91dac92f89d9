"""The refusals: each stands straight under PlanError, so that taking one never takes another."""


class PlanError(ValueError):
    pass


class BadFraction(PlanError):
    pass


class NotLinear(PlanError):
    pass


class BadText(PlanError):
    pass


class BadName(PlanError):
    pass


class BadTable(PlanError):
    pass


class BadEnds(PlanError):
    pass


class BadGoal(PlanError):
    pass


class TooMany(PlanError):
    pass
