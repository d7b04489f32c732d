"""What the tests of refusals share: the class that is raised, and its fields, told just as they were handed in."""


class Refusals:
    def assert_refused(self, refusal, fields, asked, *handed):
        with self.assertRaises(refusal) as raised:
            asked(*handed)
        self.assertIs(type(raised.exception), refusal, (asked, handed))
        self.assertEqual(vars(raised.exception), fields, (asked, handed))
        for name, field in fields.items():
            self.assertIs(type(vars(raised.exception)[name]), type(field))
