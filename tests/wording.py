"""What all refusals have in common, whichever module they come from."""

from murrine.errors import GlassError


def check_words(test, calls):
    """Each call is refused, with words that hold no number."""
    for at, call in enumerate(calls):
        with test.subTest(at):
            with test.assertRaises(GlassError) as told:
                call()
            words = str(told.exception)
            test.assertTrue(words)
            test.assertFalse(any(sign.isdigit() for sign in words), words)
