"""What is told of guests in several tests: events of all words, folios and rules."""

from keptnights.events import STATES
from keptnights.folios import Folio
from keptnights.offers import Offer
from keptnights.policies import Policy
from keptnights.taxes import Taxes
from keptnights.bills import Rules
from tests.support import random_span

DAY = 1440
DESKS = ("bar", "front", "spa")
NAMES = ("ann", "bob", "cy")
OFFERS = ("day", "week", "none")

RIGHT = [
    ((0, "front"), "stay", (3, 5), "day"), ((1, "front"), "stay", (0, 36525), "a" * 12),
    ((2, "bar"), "state", "booked"), ((2, "front"), "state", "cancelled"), ((2, "spa"), "state", "absent"),
    ((3, "front"), "state", "here"), ((4, "front"), "left", 0), ((4, "spa"), "left", 99999999),
    ((5, "front"), "grant", 0), ((6, "front"), "grant", 100), ((7, "front"), "charge", "bar", -9999999),
    ((8, "front"), "charge", "bar", 9999999), ((9, "front"), "charge", "bar", -1), ((9, "a"), "paid", "ann", 1),
    ((9, "b"), "paid", "ann", -9999999), ((99999999, "a1"), "paid", "bob", 9999999),
    ((10, "front"), "void", (0, "front")), ((11, "front"), "void", (99999999, "a" * 12)),
    ((12, "front"), "shares", (("ann", 9999999),)), ((13, "front"), "shares", (("ann", 0), ("bob", 1))),
    ((14, "front"), "shares", tuple((f"n{k}", k) for k in range(8)))]


def random_event(random, minute, desk):
    """An event of any word."""
    word = random.choice(("stay", "state", "state", "left", "grant", "charge", "charge", "paid", "void", "shares"))
    parts = {
        "stay": (random_span(random, 8), random.choice(OFFERS[:2])),
        "state": (random.choice(STATES + ("here", "here", "here")),),
        "left": (random.randrange(9),),
        "grant": (random.choice((0, 10, 33, 100, random.randrange(101))),),
        "charge": (random.choice(NAMES), random.choice((-700, -1, 1, 250, 999))),
        "paid": (random.choice(NAMES), random.choice((-300, 1, 500, 12345))),
        "void": ((random.randrange(9) * DAY // 2, random.choice(DESKS)),),
        "shares": (tuple((name, random.randrange(1, 4)) for name in random.sample(NAMES, random.randint(1, 3))),),
    }[word]
    return ((minute, desk), word) + parts


def random_events(random, most=14):
    """Events with different stamps, in any order; some are told again."""
    stamps = [(half * DAY // 2, desk) for half in range(9) for desk in DESKS]
    events = [random_event(random, *stamp) for stamp in random.sample(stamps, random.randint(0, most))]
    return events + random.sample(events, len(events) // 4)


def random_folio(random, most=14):
    return Folio(random_events(random, most))


def random_rules(random):
    """Rules with the offers day and week."""
    offers = [Offer("day", [random.randrange(500) for _ in range(7)], [(3, random.randrange(101))]),
              Offer("week", [random.choice((0, 1, 100)) for _ in range(7)], (), [((2, 5), [9] * 7)], (3, 1), least=3),
              Offer("day", [1] * 7)]
    policy = Policy([(4, random.randrange(2)), (2, random.randrange(3))], random.randrange(4), random.randrange(5))
    return Rules(offers, policy, Taxes(random.choice((0, 1, 250)), random.choice((0, 7, 19, 50))))
