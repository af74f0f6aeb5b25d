"""Books: dicts that hold all that a party knows, and the records that store them."""

from partclones.histories.history import History
from partclones.parties.coding import history_records, record_of
from partclones.parties.decoding import history_of, strings_of
from partclones.parties.letters import made_strings
from partclones.parties.reading import PARTY_LETTERS, read_made
from partclones.parties.tape import Tape


def new_clone_book(letter):
    """Return the book of a clone that has done nothing."""
    book = {"history": History(), "marks": {}, "letter": letter}
    # The number of the newest request, and the greatest number of a version of its own.
    book["number"] = book["last"] = 0
    # The made versions with their parents and puts, and the written form of the open request, or None.
    book["made"] = ()
    book["request"] = None
    return book


def new_hub_book():
    """Return the book of a hub that has done nothing."""
    # From the letters of the clones to the recorded number and lot, and the written form of the answer.
    return {"history": History(), "marks": {}, "clones": {}}


def clone_records(book):
    """Return the records that store the book of a clone."""
    records = _common_records(book)
    records["clone"] = [book["letter"], str(book["number"]), str(book["last"])]
    records["made"] = record_of(made_strings(book["made"]))
    if book["request"] is not None:
        records["request"] = record_of(book["request"])
    return records


def clone_book(records):
    """Return the book of a clone that records store."""
    letter, number, last = records["clone"]
    book = {**new_clone_book(letter), **_common_book(records)}
    book["number"] = int(number)
    book["last"] = int(last)
    book["made"] = read_made(Tape(strings_of(records["made"])))
    if "request" in records:
        book["request"] = strings_of(records["request"])
    return book


def hub_records(book):
    """Return the records that store the book of the hub."""
    records = _common_records(book)
    clones = book["clones"]
    for letter in clones:
        number, lot, told = clones[letter]
        records[f"lot.{letter}"] = record_of([str(number), *lot])
        records[f"answer.{letter}"] = record_of(told)
    return records


def hub_book(records):
    """Return the book of the hub that records store."""
    book = {**new_hub_book(), **_common_book(records)}
    for letter in PARTY_LETTERS:
        if f"lot.{letter}" in records:
            number, *lot = strings_of(records[f"lot.{letter}"])
            book["clones"][letter] = (int(number), tuple(lot), strings_of(records[f"answer.{letter}"]))
    return book


def _common_records(book):
    """Return the records for what every party knows."""
    records = history_records(book["history"])
    marks = book["marks"]
    records["marks"] = record_of([string for mark in sorted(marks) for string in (mark, marks[mark])])
    return records


def _common_book(records):
    """Return a book of what every party knows."""
    strings = strings_of(records["marks"])
    return {"history": history_of(records), "marks": dict(zip(strings[::2], strings[1::2]))}
