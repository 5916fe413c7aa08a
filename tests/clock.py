"""How long a call takes."""

import time

from meetlots.errors import MeetError


def assert_quick(case, function, *arguments, seconds=1.0):
    """A call ends within so much time of the processor; the errors of the package are an end, too."""
    begun = time.process_time()
    try:
        function(*arguments)
    except MeetError:
        pass
    case.assertLess(time.process_time() - begun, seconds, function)
