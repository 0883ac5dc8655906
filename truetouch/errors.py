"""The errors of the program: each kind of failure has a class of its own."""


class TouchError(ValueError):
    """The base of all errors of the program."""


class BadStage(TouchError):
    """A stage is none."""

    def __init__(self, stage):
        super().__init__("this is no stage from 3 to 8")
        self.stage = stage


class BadRow(TouchError):
    """A row is none, or is none of the stage."""

    def __init__(self, row):
        super().__init__("this is no row of the stage")
        self.row = row


class BadChange(TouchError):
    """A change is none of the stage, or cannot stand where it stands."""

    def __init__(self, change):
        super().__init__("this is no change of the stage, or not one that can stand here")
        self.change = change


class BadLead(TouchError):
    """The entry with this number in a plain lead is no change; -1 for the whole."""

    def __init__(self, number):
        super().__init__("the plain lead has something that is no change of the stage")
        self.number = number


class BadCall(TouchError):
    """The call with this number does not have its form; -1 for the whole."""

    def __init__(self, number):
        super().__init__("a call does not have its form")
        self.number = number


class BadLetter(TouchError):
    """A letter is none of the method."""

    def __init__(self, letter):
        super().__init__("this is no letter of the method")
        self.letter = letter


class BadCalling(TouchError):
    """The character with this index in a calling is no letter; -1 for the whole."""

    def __init__(self, number):
        super().__init__("a calling has a character that is no letter of the method")
        self.number = number


class BadText(TouchError):
    """The character with this index cannot stand there; -1 if the thing is no string."""

    def __init__(self, at):
        super().__init__("a character cannot stand where it stands")
        self.at = at


class BadLine(TouchError):
    """The word with this number, in the line with this number, cannot stand there."""

    def __init__(self, line, word):
        super().__init__("a word cannot stand where it stands")
        self.line = line
        self.word = word


class BadMenu(TouchError):
    """The pair with this number in a menu does not have its form; -1 for the whole."""

    def __init__(self, number):
        super().__init__("a pair of the menu does not have its form")
        self.number = number


class BadBell(TouchError):
    """A bell is none."""

    def __init__(self, bell):
        super().__init__("this is no bell of the stage")
        self.bell = bell


class BadPlace(TouchError):
    """A place is none."""

    def __init__(self, place):
        super().__init__("this is no place of the stage")
        self.place = place


class BadPlaces(TouchError):
    """Places are none."""

    def __init__(self, places):
        super().__init__("these are no places of the stage")
        self.places = places


class BadTimes(TouchError):
    """A number of times is none."""

    def __init__(self, times):
        super().__init__("this is no number of times")
        self.times = times


class BadHeard(TouchError):
    """The pattern with this number does not have its form; -1 for the whole."""

    def __init__(self, number):
        super().__init__("a pattern does not have its form")
        self.number = number


class BadEntry(TouchError):
    """The entry with this number does not have its form; -1 for the whole."""

    def __init__(self, number):
        super().__init__("an entry does not have its form")
        self.number = number


class BadTable(TouchError):
    """The row with this number does not have its form; -1 for the whole."""

    def __init__(self, number):
        super().__init__("a row of the table does not have its form")
        self.number = number


class BadSheet(TouchError):
    """The call with this number in a sheet does not have its form; -1 for the whole."""

    def __init__(self, number):
        super().__init__("a call of the sheet does not have its form")
        self.number = number


class BadStatement(TouchError):
    """The statement with this number does not have its form; -1 for the whole."""

    def __init__(self, number):
        super().__init__("a statement does not have its form")
        self.number = number


class BadValue(TouchError):
    """The variable of this name has no value that it can have."""

    def __init__(self, name):
        super().__init__("a variable has no value that it can have")
        self.name = name


class BadSlip(TouchError):
    """The slip with this number does not have its form; -1 for the whole."""

    def __init__(self, number):
        super().__init__("a slip does not have its form")
        self.number = number


class BadKind(TouchError):
    """A kind of slips is none."""

    def __init__(self, word):
        super().__init__("this is no kind of slips")
        self.word = word


class BadRung(TouchError):
    """The letter with this index cannot be rung there; -1 for the whole."""

    def __init__(self, number):
        super().__init__("a letter cannot be rung here")
        self.number = number


class BadSlips(TouchError):
    """A number of slips is none."""

    def __init__(self, slips):
        super().__init__("this is no number of slips")
        self.slips = slips


class BadDelay(TouchError):
    """A delay is none."""

    def __init__(self, delay):
        super().__init__("this is no delay")
        self.delay = delay


class BadHears(TouchError):
    """The pair with this number does not have its form; -1 for the whole."""

    def __init__(self, number):
        super().__init__("a pair of what is misheard does not have its form")
        self.number = number


class BadMost(TouchError):
    """A greatest number of mishearings is none."""

    def __init__(self, most):
        super().__init__("this is no greatest number of mishearings")
        self.most = most


class BadRule(TouchError):
    """The rule with this number does not have its form; -1 for the whole."""

    def __init__(self, number):
        super().__init__("a rule does not have its form")
        self.number = number


class BadFee(TouchError):
    """The fee with this number does not have its form; -1 for the whole."""

    def __init__(self, number):
        super().__init__("a fee does not have its form")
        self.number = number


class BadMany(TouchError):
    """A number of leads is none."""

    def __init__(self, many):
        super().__init__("this is no number of leads that can stand here")
        self.many = many


class BadName(TouchError):
    """A name is none."""

    def __init__(self, name):
        super().__init__("this is no name")
        self.name = name


class TooMany(TouchError):
    """There are more things of this kind than are let."""

    def __init__(self, word):
        super().__init__("there are more things of a kind than are let")
        self.word = word


class TooLong(TouchError):
    """Something stands for so many things, which are more than are let."""

    def __init__(self, number):
        super().__init__("this is longer than is let")
        self.number = number


class TooHeavy(TouchError):
    """A program has so many points, which are more than are let."""

    def __init__(self, number):
        super().__init__("there are more points than are let")
        self.number = number


class Twice(TouchError):
    """A thing with this name or letter is there already."""

    def __init__(self, name):
        super().__init__("this is there already")
        self.name = name


class Unknown(TouchError):
    """There is nothing with this name."""

    def __init__(self, name):
        super().__init__("there is nothing with this name")
        self.name = name


class Unlike(TouchError):
    """Things differ in what this word tells."""

    def __init__(self, word):
        super().__init__("these things differ in what they must share")
        self.word = word


class Unreached(TouchError):
    """A row is not reached."""

    def __init__(self, row):
        super().__init__("this row is not reached")
        self.row = row


class NoSpot(TouchError):
    """A spot is none."""

    def __init__(self, spot):
        super().__init__("there is nothing at this spot")
        self.spot = spot


class NoStanding(TouchError):
    """A standing is none."""

    def __init__(self, standing):
        super().__init__("this is no standing")
        self.standing = standing


class NoMend(TouchError):
    """A fault has no mend."""

    def __init__(self, row):
        super().__init__("this fault has no mend")
        self.row = row


class NoValue(TouchError):
    """A head has no value."""

    def __init__(self, row):
        super().__init__("the bells cannot surely be brought round from here")
        self.row = row


class HasVariable(TouchError):
    """A program has a variable of this name."""

    def __init__(self, name):
        super().__init__("the program has a variable")
        self.name = name


class InUse(TouchError):
    """The thing with this name is kept with the one that was to be struck."""

    def __init__(self, name):
        super().__init__("this is in use")
        self.name = name


class Torn(TouchError):
    """The deed whose first line has this number cannot be read, made, added or struck."""

    def __init__(self, line):
        super().__init__("the journal goes wrong at a deed")
        self.line = line
