"""The examples of the document, as they stand there."""

import doctest
import unittest

EXAMPLES = {}

EXAMPLES["devices"] = r"""
>>> from queueloops.devices import delays_of, Device, device_text, is_rule, least_rule, row_delay, rows_for, rows_of, rules_many
>>> device = Device('stage 0 1\nstage 2 0\nstage 0 1')
>>> [device.stages, len(device), device_text(((0, 5), (3, 1, 2)))]
[((0, 1), (2, 0), (0, 1)), 3, 'stage 0 5\nstage 3 1 2']
>>> [rows_of(device)[:3], len(rows_of(device)), row_delay(device, (1, 0, 1)), delays_of(device)]
[((0, 0, 0), (0, 0, 1), (0, 1, 0)), 8, 4, (0, 1, 2, 3, 4)]
>>> [rows_for(device, 1), rows_for(device, 9), least_rule(device, 2)]
[((0, 1, 1), (1, 1, 0)), (), ((0, 1, 0), (0, 1, 1), (0, 0, 0))]
>>> [is_rule(device, ((0, 1, 0), (1, 1, 0))), is_rule(device, ((0, 1, 1),)), is_rule(device, ()), rules_many(device, 4), rules_many(device, 5)]
[True, False, False, 8, 0]
"""

EXAMPLES["services"] = r"""
>>> from queueloops.services import fits, is_service, leaves_of, led_on, packets_of, scripts_many, waiting
>>> [is_service(('queue', 2)), is_service(('queue', 5)), is_service(['any', 1])]
[True, False, False]
>>> [packets_of(('queue', 2), 3, (2, 2, 0, 1)), leaves_of(('queue', 2), 3, (2, 2, 0, 1))]
[((0, 0), (0, 1), (1, 1), (1, 2), (3, 1)), ((0, 0), (1, 1), (2, 2), (3, 3), (4, 4))]
>>> [packets_of(('any', 2), 3, ((3,), (0, 1))), leaves_of(('any', 2), 3, ((3,), (0, 1)))]
[((0, 3), (1, 0), (1, 1)), ((1, 1), (2, 2), (3, 0))]
>>> [fits(('queue', 3), 3, (3, 2)), fits(('order', 1), 3, ((3,), ())), fits(('any', 1), 3, ((3,), ()))]
[1, (2, 3), (0, 2, 3)]
>>> [led_on(('order', 2), 4, ((1,),), (1, 3)), waiting((2, 0, 3, 1, 0)), waiting(())]
[((1,), (1, 3)), (1, 0, 2, 2, 1), ()]
>>> [scripts_many(('queue', 2), 1, 3), scripts_many(('order', 1), 1, 2), scripts_many(('any', 2), 1, 1)]
[21, 8, 5]
"""


class ExamplesTest(unittest.TestCase):
    def test_examples(self):
        for name, text in EXAMPLES.items():
            with self.subTest(name=name):
                told = []
                parsed = doctest.DocTestParser().get_doctest(text, {}, name, None, 0)
                ended = doctest.DocTestRunner(verbose=False).run(parsed, out=told.append)
                self.assertGreater(ended.attempted, 4)
                self.assertEqual(ended.failed, 0, "".join(told))


if __name__ == "__main__":
    unittest.main()
