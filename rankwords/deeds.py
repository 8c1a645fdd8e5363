"""Nets, whose deeds mix, drop, copy and forge packets."""

from rankwords.errors import BadComing, BadDeed, BadRows, NotBehind
from rankwords.fields import check_columns
from rankwords.kinds import first_beyond, is_sequence, is_whole
from rankwords.packets import check_rows
from rankwords.spaces import basis_of, unit_row

_MOST_STANDING = 8
_MOST_DEEDS = 12


def _is_row(prime, width, row):
    return is_sequence(row) and len(row) == width and first_beyond(row, prime) is None


def _mix_fault(prime, standing, table):
    if is_sequence(table) and len(table) <= _MOST_STANDING:
        if all([_is_row(prime, standing, row) for row in table]):
            return None
    return "table"


def _place_fault(standing, place):
    return None if is_whole(place, 0, standing - 1) else "place"


def _deed_fault(prime, width, standing, deed):
    """Why a deed cannot be done where so many rows of this width stand, or None."""
    if not is_sequence(deed) or len(deed) != 2:
        return "deed"
    word, what = deed
    if word == "mix":
        return _mix_fault(prime, standing, what)
    if word == "drop":
        return _place_fault(standing, what)
    if word == "copy":
        fault = _place_fault(standing, what)
    elif word == "false":
        fault = None if _is_row(prime, width, what) else "row"
    else:
        return "deed"
    if fault is None and standing == _MOST_STANDING:
        return "room"
    return fault


def _kept_deed(deed):
    """A deed that is checked, with tuples in place of lists throughout."""
    word, what = deed
    if word == "mix":
        return word, tuple([tuple(row) for row in what])
    if word == "false":
        return word, tuple(what)
    return word, what


def _standing_behind(standing, deed):
    if deed[0] == "mix":
        return len(deed[1])
    return standing - 1 if deed[0] == "drop" else standing + 1


def _checked_deeds(field, columns, coming, deeds):
    """The deeds as they are kept, and how many rows stand behind them."""
    if not is_sequence(deeds) or len(deeds) > _MOST_DEEDS:
        raise BadDeed(-1, "many")
    kept, standing = [], coming
    for index, deed in enumerate(deeds):
        fault = _deed_fault(field.prime, columns + field.degree, standing, deed)
        if fault is not None:
            raise BadDeed(index, fault)
        kept.append(_kept_deed(deed))
        standing = _standing_behind(standing, deed)
    return tuple(kept), standing


class Net:
    """A net: so many packets come in, and its deeds change them one after the other."""

    def __init__(self, field, columns, coming, deeds):
        self.field = field
        self.columns = check_columns(field, columns)
        if not is_whole(coming, 0, _MOST_STANDING):
            raise BadComing()
        self.coming = coming
        self.deeds, self.arriving = _checked_deeds(field, columns, coming, deeds)

    def __eq__(self, other):
        return (isinstance(other, Net) and self.field == other.field
                and self.columns == other.columns and self.coming == other.coming
                and self.deeds == other.deeds and self.arriving == other.arriving)


class Taken:
    """What a net does to all packets: a table that mixes them, and rows that it adds."""

    def __init__(self, table, false_rows):
        self.table = table
        self.false_rows = false_rows

    def __eq__(self, other):
        return (isinstance(other, Taken) and self.table == other.table
                and self.false_rows == other.false_rows)


def _mixed_row(prime, width, digits, rows):
    """The sum of the digits times the rows; of no rows it is 0 throughout."""
    return tuple([sum([digit * row[place] for digit, row in zip(digits, rows)]) % prime
                  for place in range(width)])


def _rows_behind(prime, width, deed, rows):
    """The rows that stand behind a deed, if each of them has this width."""
    word, what = deed
    if word == "mix":
        return [_mixed_row(prime, width, digits, rows) for digits in what]
    if word == "drop":
        return rows[:what] + rows[what + 1:]
    if word == "copy":
        return rows + [rows[what]]
    return rows + [(0,) * (width - len(what)) + what]


def _led_through(net, width, rows):
    """The rows at the end, if these come in; zeros stand ahead of narrower false rows."""
    standing = list(rows)
    for deed in net.deeds:
        standing = _rows_behind(net.field.prime, width, deed, standing)
    return tuple(standing)


def run_net(net, rows):
    """The rows that stand at the end, if these rows come in."""
    if not is_sequence(rows) or len(rows) != net.coming:
        raise BadRows(-1)
    good = check_rows(net.field, net.columns, rows)
    return _led_through(net, net.columns + net.field.degree, good)


def taken_through(net):
    """The Taken of a net: the rows at the end are table times those that come in, plus false_rows."""
    width = net.columns + net.field.degree
    # A unit row ahead of each row tells from which rows that came in it is mixed.
    marked = [unit_row(net.coming, place) + (0,) * width for place in range(net.coming)]
    rows = _led_through(net, net.coming + width, marked)
    return Taken(tuple([row[:net.coming] for row in rows]),
                 tuple([row[net.coming:] for row in rows]))


def net_bound(net):
    """How many dimensions are lost on the way, and how many are false, at the most."""
    taken = taken_through(net)
    prime = net.field.prime
    return net.coming - len(basis_of(prime, taken.table)), len(basis_of(prime, taken.false_rows))


def net_behind(first, second):
    """The net that does the deeds of the first one and behind them those of the second one."""
    if first.field != second.field or first.columns != second.columns:
        raise NotBehind()
    if second.coming != first.arriving or len(first.deeds) + len(second.deeds) > _MOST_DEEDS:
        raise NotBehind()
    return Net(first.field, first.columns, first.coming, first.deeds + second.deeds)
