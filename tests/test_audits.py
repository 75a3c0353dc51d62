"""Point 43: audits."""

from random import Random

from keptnights.audits import Audit
from keptnights.daily import daily_of
from keptnights.errors import BadNumber, Closed, Unknown
from keptnights.folios import Folio
from tests.guests import random_event, random_rules
from tests.support import NO_NUMBERS, Case
from tests.test_bills import HERE, RULES, STAY

TEA = ((1440 * 3, "bar"), "charge", "tea", 100)
WINE = ((1440 * 2, "bar"), "charge", "wine", 30)


def state_of_audit(audit):
    return (audit.entries, audit.closed, audit.days_closed, len(audit), audit.total())


class TestAudits(Case):
    def test_closings_in_any_steps_post_what_the_folios_bring(self):
        random = Random(43)
        corrected = 0
        for _ in range(120):
            rules = random_rules(random)
            folios = [Folio() for _ in range(random.randrange(4))]
            audit = Audit(rules)
            entries, days = [], []
            for step in range(random.randint(1, 6)):
                for folio in folios:
                    for _ in range(random.randrange(4)):
                        stamp = (random.randrange(9) * 720, f"d{len(folio)}")
                        folio.tell(random_event(random, *stamp))
                day = random.randint((days or [-1])[-1] + 1, 13 + step)
                brings = dict(daily_of(rules, folios))
                posted = {}
                for _, one, cents in entries:
                    posted[one] = posted.get(one, 0) + cents
                new = [(one, brings.get(one, 0) - posted.get(one, 0)) for one in sorted(set(brings) | set(posted)) if one <= day]
                new = tuple(pair for pair in new if pair[1])
                self.assertIs(audit.is_square(folios), not any(one <= (days or [-1])[-1] for one, _ in new))
                self.assertEqual(self.ask(audit.differences, day, folios), new)
                added = audit.close(day, folios)
                self.assertEqual(added, tuple((step, one, cents) for one, cents in new))
                self.assertEqual(audit.report(step), new)
                entries += added
                days.append(day)
                self.assertEqual((audit.entries, audit.closed, audit.days_closed, len(audit)),
                                 (tuple(entries), day, tuple(days), step + 1))
                self.assertTrue(audit.is_square(folios))
                for one in range(day + 1):
                    self.assertEqual(audit.posted(one), brings.get(one, 0))
                late = tuple(entry for entry in entries if entry[0] and entry[1] <= days[entry[0] - 1])
                self.assertEqual(audit.corrections(), late)
                self.assertEqual(audit.posted_days(), tuple(sorted({one for _, one, _ in entries})))
                self.assertEqual(audit.total(), sum(cents for _, _, cents in entries))
                corrected += len(late)
        self.assertTrue(corrected > 50)

    def test_a_new_audit(self):
        audit = self.ask(Audit, RULES)
        self.assertEqual(state_of_audit(audit), ((), None, (), 0, 0))
        self.assertEqual((audit.posted(3), audit.posted_days(), audit.corrections(), audit.report(0)), (0, (), (), ()))
        self.assertIs(audit.is_square([Folio([TEA])]), True)
        self.assertEqual(audit.differences(9, [Folio([TEA])]), ((3, 110),))

    def test_what_is_told_later_for_a_closed_day(self):
        audit = Audit(RULES)
        folio = Folio([TEA])
        self.assertEqual(audit.close(2, [folio]), ())
        self.assertEqual(audit.close(day=3, folios=(folio,)), ((1, 3, 110),))
        folio.tell(WINE)
        # The percent is still of the last day.
        self.assertEqual(audit.differences(2, [folio]), ((2, 30),))
        self.assertEqual((audit.is_square([folio]), audit.is_square([])), (False, False))
        self.assertEqual(audit.close(4, [folio]), ((2, 2, 30), (2, 3, 3)))
        self.assertEqual(audit.corrections(), ((2, 2, 30), (2, 3, 3)))
        folio.tell(((9, "a"), "void", TEA[0]))
        self.assertEqual(audit.close(9, [folio]), ((3, 2, 3), (3, 3, -113)))
        self.assertEqual((audit.posted(2), audit.posted(3), audit.total()), (33, 0, 33))
        self.assertEqual((audit.posted_days(), audit.report(1), audit.report(0)), ((2, 3), ((3, 110),), ()))
        self.assertEqual((audit.corrections()[-1], audit.days_closed, len(audit)), ((3, 3, -113), (2, 3, 4, 9), 4))

    def test_days_behind_the_closed_one_are_no_corrections(self):
        audit = Audit(RULES)
        folio = Folio([STAY, HERE])
        self.assertEqual(audit.close(3, [folio]), ((0, 2, 1150), (0, 3, 2050)))
        self.assertEqual(audit.close(5, [folio]), ((1, 4, 2950), (1, 5, 4750)))
        self.assertEqual((audit.corrections(), audit.is_square([folio])), ((), True))

    def test_folios_that_are_gone(self):
        audit = Audit(RULES)
        audit.close(3, [Folio([TEA])])
        self.assertEqual(audit.close(4, []), ((1, 3, -110),))
        self.assertEqual((audit.posted(3), audit.posted_days()), (0, (3,)))

    def test_closed_days(self):
        audit = Audit(RULES)
        audit.close(5, [Folio([TEA])])
        before = state_of_audit(audit)
        for day in (5, 4, 0):
            self.refuse(Closed, (day,), audit.close, day, [Folio([WINE])])
            self.assertEqual(state_of_audit(audit), before)
        audit.close(6, [Folio([TEA])])
        self.refuse(Closed, (6,), audit.close, 6, [])
        self.assertEqual(Audit(RULES).close(0, []), ())
        self.assertEqual(audit.close(99999, []), ((2, 3, -110),))

    def test_wrong_days(self):
        audit = Audit(RULES)
        audit.close(5, [Folio([TEA])])
        before = state_of_audit(audit)
        for day in NO_NUMBERS + (-1, 100000):
            self.refuse(BadNumber, (day,), audit.close, day, [Folio([WINE])])
        self.refuse(Unknown, ("gone",), audit.close, 9, [Folio([WINE]), Folio([STAY[:3] + ("gone",), HERE])])
        self.refuse(Unknown, ("gone",), audit.differences, 9, [Folio([STAY[:3] + ("gone",), HERE])])
        self.assertEqual(state_of_audit(audit), before)

    def test_many_folios(self):
        random = Random(430)
        rules = random_rules(random)
        folios = [Folio([random_event(random, 300 * k, "bar") for k in range(200)]) for _ in range(30)]
        audit = Audit(rules)
        for day in range(0, 60, 5):
            audit.close(day, folios)
        self.assertTrue(audit.is_square(folios))
        self.assertEqual(audit.total(), sum(cents for day, cents in daily_of(rules, folios) if day <= 55))
