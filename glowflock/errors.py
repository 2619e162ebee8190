"""The refusals: one class for each, all of them under GlowError."""


# Any refusal.
class GlowError(ValueError):
    pass


# Made over 0.
class NoNumber(GlowError):
    pass


# Two things that make no rule.
class NoRule(GlowError):
    pass


# A rule and a thing that make no swarm, a move too far, or no order of a swarm's worms.
class NoSwarm(GlowError):
    pass


# A swarm that isn't laid, no phases of a web, or no order of a stand's worms.
class NoStand(GlowError):
    pass


# An answer that lies further off than is walked.
class TooLong(GlowError):
    pass


# Things that make no web, a swarm that is none, or no order of a web's worms.
class NoWeb(GlowError):
    pass


# What is not the text of such a thing.
class NoText(GlowError):
    pass


# A row that the desk doesn't know.
class NoRow(GlowError):
    pass


# Nothing to be taken back at the desk.
class NoBack(GlowError):
    pass
