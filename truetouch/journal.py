"""Journals: the deeds of a tower, written as lines."""

from truetouch.books import Book
from truetouch.booktext import entries_told, write_book
from truetouch.callings import judge_calling
from truetouch.calltext import MOST_FOLDED, fold_calling
from truetouch.errors import Torn, TouchError
from truetouch.methods import Method
from truetouch.methodtext import method_told, write_method
from truetouch.programs import Program
from truetouch.progtext import script_told, write_program
from truetouch.tower import Tower
from truetouch.wordlines import CLOSING, EMPTY_CALLING, LineReader


def write_journal(tower):
    """The lines of the journal of a tower."""
    lines = []
    for word, name, of, thing in tower.deeds_told():
        if word == "method":
            lines.extend([f"method {name}", *write_method(thing), CLOSING])
        elif word == "book":
            lines.extend([f"book {name} {of}", *write_book(thing), CLOSING])
        elif word == "program":
            lines.extend([f"program {name} {of}", *write_program(thing), CLOSING])
        elif word == "touch":
            lines.append(f"touch {name} {of} {calling_word(thing.calling)}")
        else:
            lines.append(f"strike {name}")
    return tuple(lines)


def calling_word(calling):
    """The word by which a calling is written in a journal."""
    if calling == "":
        return EMPTY_CALLING
    return fold_calling(calling) if len(calling) <= MOST_FOLDED else calling


def read_journal(lines):
    """The tower whose journal is written in the lines."""
    reader = JournalReader(lines)
    reader.take_deeds()
    return reader.tower


def taken_up(lines):
    """The tower of the longest good beginning of the lines, and the number of lines in it."""
    reader = JournalReader(lines)
    try:
        reader.take_deeds()
    except Torn:
        # What was taken up ahead of this deed is what is asked for.
        pass
    return (reader.tower, reader.lines_taken)


class JournalReader:
    """Takes up a journal deed by deed."""

    def __init__(self, lines):
        self.reader = LineReader(lines)
        self.tower = Tower()
        self.lines_taken = 0

    def take_deeds(self):
        """Takes up all deeds; where one cannot be taken up, those ahead of it have been."""
        while self.reader.has_more():
            try:
                self.take_deed()
            except TouchError as error:
                raise Torn(self.lines_taken) from error
            self.lines_taken = self.reader.number + 1

    def take_deed(self):
        """Takes up the next deed."""
        word = self.reader.begin("method", "book", "program", "touch", "strike")
        name = self.reader.take_name()
        if word == "strike":
            self.reader.finish()
            self.tower.strike(name)
        elif word == "method":
            self.reader.finish()
            stage, plain, calls = method_told(self.reader, True)
            self.tower.keep_method(name, Method(stage, plain, calls))
        elif word == "touch":
            self.take_touch(name)
        else:
            self.take_conduct(word, name)

    def take_touch(self, name):
        """Takes up the rest of a deed that adds a touch."""
        of = self.reader.take_name()
        calling = self.reader.take_calling()
        self.reader.finish()
        method = self.tower.method_kept(of)
        # Without its method nothing can be made; then it is the tower that refuses.
        if method is not None:
            judge_calling(calling, method)
        self.tower.keep_touch(name, of, calling)

    def take_conduct(self, word, name):
        """Takes up the rest of a deed that adds a book or a program."""
        of = self.reader.take_name()
        self.reader.finish()
        method = self.tower.method_kept(of)
        if word == "book":
            entries = entries_told(self.reader, True)
            self.tower.keep_book(name, of, None if method is None else Book(method, entries))
        else:
            script = script_told(self.reader, True)
            self.tower.keep_program(name, of, None if method is None else Program(method, script))
