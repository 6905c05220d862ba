"""The tests of peristyle."""

import faulthandler

# A search that never ends must fail the run, not hold it up.
faulthandler.dump_traceback_later(1200, exit=True)
