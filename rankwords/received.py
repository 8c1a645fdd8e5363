"""What arrives of a sent word: a word, lost rows and lost things; and the nets that lead there."""

from rankwords.deeds import Net, net_bound, run_net
from rankwords.losses import Losses
from rankwords.packets import check_rows, packets_of
from rankwords.spaces import (basis_of, contrary_of, contrary_table, leading_place, lies_within,
                              meet_spaces, unit_row)
from rankwords.tables import check_word, times_table


class Received:
    """A word and the losses that tell a space of packets."""

    def __init__(self, word, losses):
        self.word = word
        self.losses = losses

    def __eq__(self, other):
        return (isinstance(other, Received) and self.word == other.word
                and self.losses == other.losses)


def received_rows(losses, word):
    """The basis of the packets of the word that these losses leave and add."""
    field, columns = losses.field, losses.columns
    good = check_word(field, word, columns)
    fronts = contrary_of(field.prime, columns, losses.rows)
    ends = times_table(field, good, contrary_table(field.prime, columns, losses.rows))
    left = [front + field.digits_of(end) for front, end in zip(fronts, ends)]
    added = [(0,) * columns + field.digits_of(thing) for thing in losses.things]
    return basis_of(field.prime, left + added)


def received_form(field, columns, rows):
    """The Received of the space of the rows."""
    basis = basis_of(field.prime, check_rows(field, columns, rows))
    word, fronts, things = [0] * columns, [], []
    for row in basis:
        lead, end = leading_place(row), field.thing_of(row[columns:])
        if lead < columns:
            word[lead] = end
            fronts.append(row[:columns])
        else:
            things.append(end)
    # Rows of an echelon basis with a front have fronts that are an echelon basis themselves.
    lost = contrary_of(field.prime, columns, fronts)
    return Received(tuple(word), Losses(field, columns, lost, things))


def _parted(field, word, rows):
    """Word and rows that are checked, and a basis of the packets that lie in both spaces."""
    good = check_word(field, word)
    basis = basis_of(field.prime, check_rows(field, len(good), rows))
    meet = meet_spaces(field.prime, len(good) + field.degree, packets_of(field, good), basis)
    return good, basis, meet


def parting_of(field, word, rows):
    """How many dimensions of the sent space are missing in the rows, and how many are foreign there."""
    good, basis, meet = _parted(field, word, rows)
    return len(good) - len(meet), len(basis) - len(meet)


def _widening(prime, rows, others):
    """Those of the other rows that each widen the space of the rows and of those ahead of it."""
    found, basis = [], basis_of(prime, rows)
    for row in others:
        if not lies_within(prime, basis, row):
            found.append(row)
            basis = basis_of(prime, basis + (row,))
    return found


def _false_row(field, word, front, row):
    """The row less the sum of packets that has this front."""
    end = times_table(field, word, [(digit,) for digit in front])[0]
    sent = front + field.digits_of(end)
    return tuple([(one - other) % field.prime for one, other in zip(row, sent)])


def net_for(field, word, rows):
    """A net that leads the packets of the word to the space of the rows, with the least bound."""
    good, basis, meet = _parted(field, word, rows)
    columns = len(good)
    kept = [row[:columns] for row in meet]
    foreign = _widening(field.prime, meet, basis)
    # While something is missing, a foreign row hides a further sum of packets: so less is lost.
    units = [unit_row(columns, place) for place in range(columns)]
    spare = _widening(field.prime, kept, units)[:len(foreign)]
    hidden = spare + [(0,) * columns] * (len(foreign) - len(spare))
    deeds = [("false", _false_row(field, good, front, row)) for front, row in zip(hidden, foreign)]
    table = [front + (0,) * len(foreign) for front in kept]
    for place, front in enumerate(hidden):
        table.append(front + unit_row(len(foreign), place))
    return Net(field, columns, columns, deeds + [("mix", table)])


def net_fault(field, word, rows, net):
    """Why a net does not lead the word to the rows with the least bound, or None."""
    good, basis, meet = _parted(field, word, rows)
    if net.field != field or net.columns != len(good) or net.coming != len(good):
        return "coming"
    if basis_of(field.prime, run_net(net, packets_of(field, good))) != basis:
        return "space"
    lost, false = net_bound(net)
    missing, foreign = len(good) - len(meet), len(basis) - len(meet)
    if false != foreign:
        return "false"
    return None if lost == max(missing - foreign, 0) else "lost"
