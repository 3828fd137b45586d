"""Forms: numbers and rows told so that equal forms have equal values, whatever values things have."""

from samepaper.numbers import done, kinds_of, length_made, taken_in


def times_added(one, other):
    """The things of two sums, each with its multiple and sorted, as those of one."""
    if not one or not other:
        return one or other
    if one[-1][0] < other[0][0]:
        return one + other
    if other[-1][0] < one[0][0]:
        return other + one
    times = dict(one)
    for thing, many in other:
        times[thing] = taken_in(times.get(thing, 0) + many)
    return tuple([(thing, times[thing]) for thing in sorted(times) if times[thing] != 0])


def times_multiplied(times, number):
    """The things of a sum, so often."""
    if number == 1:
        return times
    multiplied = [(thing, taken_in(many * number)) for thing, many in times]
    return tuple([(thing, many) for thing, many in multiplied if many != 0])


def form_itself(table, forms):
    return forms[0]


def form_added(table, forms):
    return table.sum_with(forms[0], forms[1], 1)


def form_less(table, forms):
    return table.sum_with(forms[0], forms[1], -1)


def form_multiplied(table, forms):
    one, other = forms
    if table.whole(one) is not None:
        return table.sum_with(table.plain(0), other, table.whole(one))
    if table.whole(other) is not None:
        return table.sum_with(table.plain(0), one, table.whole(other))
    return table.thing_of("mul", (min(one, other), max(one, other)))


def form_divided(table, forms):
    by = table.whole(forms[1])
    if by == 0:
        return table.plain(0)
    return forms[0] if by == 1 else None


def form_left(table, forms):
    by = table.whole(forms[1])
    if by == 0:
        return forms[0]
    return table.plain(0) if by == 1 else None


def form_compared(table, forms):
    return table.plain(0) if forms[0] == forms[1] else None


def form_same(table, forms):
    difference = table.sum_with(forms[0], forms[1], -1)
    number = table.whole(difference)
    if number is not None:
        return table.plain(1 if number == 0 else 0)
    turned = table.sum_with(forms[1], forms[0], -1)
    return table.thing_of("same", (min(difference, turned),))


def form_picked(table, forms):
    first, second, third = forms
    number = table.whole(first)
    if number is None:
        return second if second == third else None
    return second if number != 0 else third


def form_at(table, forms):
    op, inner = table.made_by(forms[0])
    place = table.whole(forms[1])
    if place is None:
        return None
    if op == "make":
        return inner[place] if 0 <= place < len(inner) else table.plain(0)
    if op == "many" and table.whole(inner[0]) is not None:
        return inner[1] if 0 <= place < length_made(table.whole(inner[0])) else table.plain(0)
    return None


def form_sized(table, forms):
    row = forms[0]
    op, inner = table.made_by(row)
    while op == "put":
        row = inner[0]
        op, inner = table.made_by(row)
    if op == "make":
        return table.plain(len(inner))
    if op == "many" and table.whole(inner[0]) is not None:
        return table.plain(length_made(table.whole(inner[0])))
    return table.thing_of("size", (row,))


def form_put(table, forms):
    row, place, told = forms[0], table.whole(forms[1]), forms[2]
    op, inner = table.made_by(row)
    if op != "make" or place is None:
        return None
    if not 0 <= place < len(inner):
        return row
    return table.thing_of("make", inner[:place] + (told,) + inner[place + 1:])


# Each tells the form that its operation makes, or None where that is a thing of the operation and its forms.
RULES = {
    "copy": form_itself,
    "keep": form_itself,
    "add": form_added,
    "sub": form_less,
    "mul": form_multiplied,
    "div": form_divided,
    "rest": form_left,
    "less": form_compared,
    "same": form_same,
    "pick": form_picked,
    "at": form_at,
    "size": form_sized,
    "put": form_put,
}


class Forms:
    """A table of forms: whole numbers, which are the places of their bodies here.

    The body of a form of kind n is a sum: (number, times), times a tuple of pairs (thing, multiple), sorted. That of a
    form of kind r is (thing,). A thing is the place of its source here: (op, forms), or ("", kind, label).
    """

    def __init__(self):
        self.bodies = []
        self.by_body = {}
        self.sources = []
        self.by_source = {}

    def form_with(self, body):
        form = self.by_body.get(body)
        if form is None:
            form = len(self.bodies)
            self.by_body[body] = form
            self.bodies.append(body)
        return form

    def form_from(self, kind, source):
        """The form of the one thing that has this source."""
        thing = self.by_source.get(source)
        if thing is None:
            thing = len(self.sources)
            self.by_source[source] = thing
            self.sources.append(source)
        return self.form_with((0, ((thing, 1),)) if kind == "n" else (thing,))

    def thing_of(self, op, forms):
        """The form that is a thing of an operation and its forms."""
        return self.form_from(kinds_of(op)[0], (op, forms))

    def sum_with(self, form, other, number):
        """The sum of one form and so often another one."""
        first, times = self.bodies[form]
        second, more = self.bodies[other]
        whole = taken_in(first + second * number)
        return self.form_with((whole, times_added(times, times_multiplied(more, number))))

    def made_by(self, row):
        """The operation and forms of which a form of kind r is a thing; the operation is "" where it is none."""
        source = self.sources[self.bodies[row][0]]
        return (source[0], source[1])

    def plain(self, number):
        """The form of a plain number."""
        return self.form_with((taken_in(number), ()))

    def thing(self, kind, label):
        """The form of a thing told by kind and label."""
        return self.form_from(kind, ("", kind, label))

    def made(self, op, forms):
        """The form that an operation makes of a tuple of forms."""
        numbers = tuple([self.whole(form) for form in forms])
        if kinds_of(op)[0] == "n" and None not in numbers:
            return self.plain(done(op, numbers))
        rule = RULES.get(op)
        form = None if rule is None else rule(self, forms)
        return self.thing_of(op, forms) if form is None else form

    def whole(self, form):
        """The number of a form that is a plain one, else None."""
        body = self.bodies[form]
        return body[0] if len(body) == 2 and not body[1] else None

    def kind(self, form):
        """The kind of a form."""
        return "n" if len(self.bodies[form]) == 2 else "r"
