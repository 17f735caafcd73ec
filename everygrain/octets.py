"""Octets, the numbers and texts that are told in them, and frames [21 to 25]."""

from everygrain.errors import InvalidCount, InvalidOctets, InvalidText, InvalidValue, Malformed, Short
from everygrain.kinds import is_count, is_integer, is_list

# The signs of the codes 32 to 36 and 38 to 126: the sign between the two, of the code 37, is not printable here.
_FIRST_SIGNS = " !\"#$"
_OTHER_SIGNS = "&'()*+,-./0123456789:;<=>?@ABCDEFGHIJKLMNOPQRSTUVWXYZ[\\]^_`abcdefghijklmnopqrstuvwxyz{|}~"


def _is_octet(value):
    return is_integer(value) and 0 <= value <= 255


def is_octets(value):
    """Tell whether any value is a list of octets."""
    if not is_list(value):
        return False
    return all([_is_octet(octet) for octet in value])


def number_octets(count):
    """Tell a count in digits to the base 128, the least one first."""
    if not is_count(count):
        raise InvalidCount(count)
    octets = []
    while count >= 128:
        octets.append(count % 128 + 128)
        count = count // 128
    octets.append(count)
    return octets


def signed_count(value):
    """The count that an integer of any sign is told as."""
    if value < 0:
        return -2 * value - 1
    return 2 * value


def signed_octets(value):
    """Tell an integer of any sign."""
    if not is_integer(value):
        raise InvalidValue(value)
    return number_octets(signed_count(value))


def _is_code(code):
    return 32 <= code <= 126 and code != 37


def _sign_of(code):
    if code < 37:
        return _FIRST_SIGNS[code - 32]
    return _OTHER_SIGNS[code - 38]


def is_printable(value):
    """Tell whether any value is a text of printable signs alone, perhaps of none."""
    if not isinstance(value, str):
        return False
    return all([_is_code(ord(sign)) for sign in value])


def text_octets(text):
    """Tell a text of printable signs: their number, and then the code of each one."""
    if not is_printable(text):
        raise InvalidText(text)
    return number_octets(len(text)) + [ord(sign) for sign in text]


class Reader:
    """A place in a list of octets, from which the next ones are read."""

    def __init__(self, octets):
        if not is_octets(octets):
            raise InvalidOctets(octets)
        self._octets = list(octets)
        self._at = 0

    def left(self):
        """The number of the octets that are not read yet."""
        return len(self._octets) - self._at

    def copied(self):
        """Another reader of the same octets, at the same place."""
        other = Reader(())
        # No reader changes its octets, so two may share them.
        other._octets = self._octets
        other._at = self._at
        return other

    def take(self, count):
        """Read so many octets."""
        if not is_count(count):
            raise InvalidCount(count)
        if count > self.left():
            raise Short()
        end = self._at + count
        taken = self._octets[self._at:end]
        self._at = end
        return taken

    def number(self):
        """Read a count."""
        last = self._last_digit()
        if self._octets[last] == 0 and last > self._at:
            raise Malformed()
        count = 0
        for octet in reversed(self._octets[self._at:last + 1]):
            count = count * 128 + octet % 128
        self._at = last + 1
        return count

    def _last_digit(self):
        last = self._at
        while last < len(self._octets) and self._octets[last] >= 128:
            last += 1
        if last == len(self._octets):
            raise Short()
        return last

    def signed(self):
        """Read an integer of any sign."""
        count = self.number()
        if count % 2 == 0:
            return count // 2
        return -((count + 1) // 2)

    def text(self):
        """Read a text."""
        # What is wrong behind the number of the signs must not move this reader.
        ahead = self.copied()
        codes = ahead.take(ahead.number())
        if not all([_is_code(code) for code in codes]):
            raise Malformed()
        self._at = ahead._at
        return "".join([_sign_of(code) for code in codes])


def _checks(octets):
    weighed = sum([octet * (len(octets) - at) for at, octet in enumerate(octets)])
    return [sum(octets) % 256, weighed % 256]


def frame(payload):
    """The octets of the frame of a payload: its length, its octets, and two checks."""
    if not is_octets(payload):
        raise InvalidOctets(payload)
    return number_octets(len(payload)) + list(payload) + _checks(payload)


def _next_payload(reader):
    """The payload of the frame that a reader stands ahead of, or None if this frame is not whole."""
    try:
        payload = reader.take(reader.number())
        checks = reader.take(2)
    except (Short, Malformed):
        return None
    if checks != _checks(payload):
        return None
    return payload


def frames(octets):
    """The payloads of the whole frames at the beginning, and the number of the octets of these frames."""
    reader = Reader(octets)
    payloads = []
    read = 0
    payload = _next_payload(reader)
    while payload is not None:
        payloads.append(payload)
        read = len(octets) - reader.left()
        payload = _next_payload(reader)
    return payloads, read
