"""What several test files ask of refusals."""

from cablehouse import errors

NAMES = (
    "NoCode", "NoNumber", "NoWord", "NoEntry", "Twice", "TooMany", "NoBook", "NoText",
    "NoReading", "NoSetting", "TooGarbled", "NoNet", "NoOffice", "NoDay", "NoRow",
)


def check_kind(case, refusal, name):
    """That a refusal is of the class of its name, a CableError, a ValueError, and none of the others."""
    case.assertIs(type(refusal), getattr(errors, name))
    case.assertIsInstance(refusal, errors.CableError)
    case.assertIsInstance(refusal, ValueError)
    for other in NAMES:
        if other != name:
            case.assertNotIsInstance(refusal, getattr(errors, other))


def check_refused(case, name, function, *given):
    """That a call is refused by the class of that name; the refusal is given back."""
    with case.assertRaises(errors.CableError) as caught:
        function(*given)
    check_kind(case, caught.exception, name)
    return caught.exception
