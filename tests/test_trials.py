"""Point 50: trials and batches."""

from random import Random

from keptnights.errors import BadEvent, KeptError, Refused, Taken, Unknown
from keptnights.houses import House
from keptnights.trials import Batch, Trial, batched, tried
from tests.deeds import random_deed, wrong_deeds
from tests.support import Case, as_lists
from tests.test_houses import AGENT, HERD, call_of, state_of

DEEDS = (("sell", "ann", (0, 2), 9), ("sell", "bob", (1, 3), 4), ("lend", (5, 6)))


def small_house():
    house = House(1, 1)
    house.sell("zoe", (4, 5), 3)
    return house


def outcome(house, deeds):
    """Who moves behind deeds that are done one after the other, or the error and its fields; the house is changed."""
    try:
        for deed in deeds:
            method, *args = call_of(house, deed)
            method(*args)
        return house.moved()
    except KeptError as error:
        return type(error), vars(error)


class TestTrials(Case):
    def test_a_trial_that_ends_without_an_error(self):
        house = small_house()
        before = state_of(house)
        trial = Trial(house)
        self.assertTrue(trial.house is house)
        with trial as held:
            self.assertTrue(held is trial)
            self.assertEqual(house.sell("ann", (0, 2)), ())
            self.assertEqual(house.names, ("zoe", "ann"))
        self.assertEqual(state_of(house), before)

    def test_a_trial_that_ends_with_an_error(self):
        house = small_house()
        before = state_of(house)
        for error in (Refused("cut", 3), KeyError("x"), KeyboardInterrupt()):
            with self.assertRaises(type(error)) as caught:
                with Trial(house=house):
                    house.sell("ann", (0, 2))
                    raise error
            self.assertTrue(caught.exception is error)
            self.assertEqual(state_of(house), before)

    def test_a_trial_that_ends_by_return(self):
        house = small_house()

        def sold():
            with Trial(house):
                house.cancel("zoe")
                return house.names

        self.assertEqual((sold(), house.names), ((), ("zoe",)))

    def test_a_batch_that_ends_without_an_error(self):
        house = small_house()
        batch = Batch(house)
        self.assertEqual((batch.house is house, batch.stands), (True, None))
        with batch as held:
            self.assertEqual((held is batch, batch.stands), (True, None))
            house.sell("ann", (0, 2))
        self.assertEqual((batch.stands, house.names), (True, ("zoe", "ann")))

    def test_a_batch_that_ends_with_an_error(self):
        house = small_house()
        before = state_of(house)
        for error in (Refused("cut", 3), KeyError("x")):
            batch = Batch(house=house)
            with self.assertRaises(type(error)) as caught:
                with batch:
                    house.sell("ann", (0, 2))
                    raise error
            self.assertTrue(caught.exception is error)
            self.assertEqual((batch.stands, state_of(house)), (False, before))

    def test_an_error_that_is_caught_within_a_batch(self):
        house = small_house()
        with Batch(house) as batch:
            house.sell("ann", (0, 2))
            self.refuse(Taken, ("ann",), house.sell, "ann", (0, 1))
        self.assertEqual((batch.stands, house.names), (True, ("zoe", "ann")))

    def test_nested_blocks(self):
        house = small_house()
        with Trial(house):
            house.sell("ann", (0, 1))
            with Batch(house) as inner:
                house.sell("bob", (1, 2))
                with Trial(house):
                    house.sell("cy", (2, 3))
                    self.assertEqual(house.names, ("zoe", "ann", "bob", "cy"))
                self.assertEqual(house.names, ("zoe", "ann", "bob"))
            self.assertEqual((inner.stands, house.names), (True, ("zoe", "ann", "bob")))
            outer = Batch(house)
            with self.assertRaises(Unknown):
                with outer:
                    house.cancel("ann")
                    with Batch(house) as inner:
                        house.cancel("bob")
                    house.cancel("nobody")
            self.assertEqual((outer.stands, inner.stands, house.names), (False, True, ("zoe", "ann", "bob")))
        self.assertEqual(house.names, ("zoe",))

    def test_deeds(self):
        house = small_house()
        before = state_of(house)
        self.assertEqual(tried(house, DEEDS), ("bob",))
        self.assertEqual(tried(deeds=as_lists(DEEDS), house=house), ("bob",))
        self.assertEqual((tried(house, []), batched(house, ())), ((), ()))
        self.assertEqual(state_of(house), before)
        self.assertEqual(batched(house, DEEDS), ("bob",))
        self.assertEqual((house.names, house.plan.annex_stays), (("zoe", "ann", "bob"), ((5, 6),)))
        self.assertEqual(batched(deeds=[["cancel", "bob"], ["upkeep", [2, 3]], ["open", AGENT]][:2], house=house), ())
        house = House(3, 3)
        self.assertEqual(tried(house, [("bring", HERD), ("open", AGENT), ("sell", "ann", (0, 3), 5)]), ("ann",))

    def test_random_deeds_against_deeds_one_by_one(self):
        random = Random(501)
        words = {True: 0, False: 0}
        for _ in range(250):
            rooms, annex = random.randrange(1, 4), random.randrange(3)
            begun = [random_deed(random) for _ in range(3)]
            deeds = [random_deed(random) for _ in range(random.randrange(4))]
            one, two = House(rooms, annex), House(rooms, annex)
            for deed in begun:
                outcome(one, [deed])
                outcome(two, [deed])
            before = state_of(one)
            found = outcome(two, deeds)
            right = not (found and isinstance(found[0], type))
            words[right] += 1
            for function in (tried, batched):
                if right:
                    self.assertEqual(function(one, deeds), found)
                else:
                    self.refuse(found[0], tuple(found[1].values()), function, one, deeds)
                self.assertEqual(state_of(one), state_of(two) if right and function is batched else before)
        self.assertTrue(min(words.values()) > 50, words)

    def test_errors_pass_on(self):
        house = small_house()
        before = state_of(house)
        for function in (tried, batched):
            self.refuse(Unknown, ("bob",), function, house, [("sell", "ann", (0, 2), 9), ("cancel", "bob"), None])
            self.refuse(Refused, ("cut", 1), function, house, DEEDS + (("upkeep", (1, 2)), "no deed"))
            for value in wrong_deeds():
                self.refuse(BadEvent, (value,), function, house, [DEEDS[0], value, ("cancel", "nobody")])
            self.assertEqual(state_of(house), before)
