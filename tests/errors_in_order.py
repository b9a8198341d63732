"""A check of the errors of a call, for each argument and for two at once."""

from tests.samples import BIG, NO_INTEGERS

NO_POSTS = NO_INTEGERS + [BIG + 1, -BIG - 1, 10 ** 99]
NO_DAYS = NO_INTEGERS + [BIG + 1, -1, -10 ** 99]
NO_COUNTS = NO_DAYS
# None means "after all days" where a day may be left out.
NO_DAYS_OR_NONE = [value for value in NO_DAYS if value is not None]


def assert_errors(test, call, good, wrong):
    """Each wrong value raises its error with this value, and of two wrong arguments the first one decides.

    good holds all arguments by their names; wrong has rows (name, error, values) in the order of the arguments.
    """
    call(**good)
    for place, (name, error, values) in enumerate(wrong):
        for value in values:
            assert_error(test, call, {**good, name: value}, error, value)
        for later, _, other_values in wrong[place + 1:]:
            for value, other in zip(values, reversed(other_values)):
                assert_error(test, call, {**good, name: value, later: other}, error, value)


def assert_error(test, call, arguments, error, value):
    with test.assertRaises(error) as caught:
        call(**arguments)
    test.assertIs(type(caught.exception), error)
    test.assertIs(caught.exception.value, value)
