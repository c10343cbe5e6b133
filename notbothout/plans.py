"""Plans: things with their tops, and the rules that they keep."""

from notbothout.errors import NoPlan
from notbothout.kinds import are_rules_of, are_tops
from notbothout.showing import plan_rows


class Plan:
    """The tops of the things, and the rules between their sides."""

    def __init__(self, tops, rules=()):
        if not are_tops(tops):
            raise NoPlan("tops")
        if not are_rules_of(tops, rules):
            raise NoPlan("rules")
        self.tops = tops
        self.rules = rules

    def __eq__(self, other):
        return isinstance(other, Plan) and self.tops == other.tops and self.rules == other.rules

    def __len__(self):
        return len(self.tops)

    def __str__(self):
        return "\n".join(plan_rows(self.tops, self.rules))
