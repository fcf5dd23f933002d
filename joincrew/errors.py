"""The refusals of the program."""


# Under ValueError, so that a caller may take every refusal as a wrong value.
class CrewError(ValueError):
    pass


# A text is the writing of no program.
class NoText(CrewError):
    pass


# A crew that is over is asked for another tick.
class NoTick(CrewError):
    pass
