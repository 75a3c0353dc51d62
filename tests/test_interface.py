"""The interface: where its functions, classes, methods and properties stand, and their parameters."""

import importlib
import inspect
import re

from tests.support import Case

FUNCTIONS = {
    "dates": "night_of(year, month, day) date_of(night) weekday(night) month_span(year, month) date_text(night)"
             " read_date(text) next_weekday(night, day)",
    "spans": "span_length(span) has_night(span, night) is_within(inner, outer) meeting(one, two) are_apart(one, two)"
             " nights_of(span) arrival_order(spans) turning_nights(spans) hull(spans) longer(span, by)"
             " sorted_spans(spans)",
    "loads": "load(spans, night) load_steps(spans) peak(spans) first_over(spans, rooms) over_spans(spans, rooms)"
             " nights_sold(spans) load_row(spans, first, leave)",
    "roomplans": "least_rooms(spans) room_plan(spans, rooms) is_room_plan(spans, rooms, plan)"
                 " spans_in_room(spans, plan, room) free_rooms(spans, plan, rooms, span)"
                 " fits_locked(spans, plan, rooms, span) fits_open(spans, rooms, span)"
                 " openings(spans, rooms, length, first, leave)",
    "arrivals": "are_settled(night, guests, rooms) rooms_free_on(taken, rooms, night)"
                " given_rooms(guests, spans, rooms, choice=0) first_stuck(guests, spans, rooms)"
                " is_given(guests, spans, rooms, plan)",
    "tails": "can_exchange(spans, plan, morning, one, two) exchanged(spans, plan, morning, one, two)"
             " tail_way(spans, rooms, one, other) is_tail_way(spans, rooms, one, other, way)"
             " closer_plan(spans, one, wishes)",
    "upkeep": "upkeep_plan(counts, jobs) is_upkeep_plan(counts, jobs, plan) is_upkeep_bar(counts, jobs, span)"
              " upkeep_bar(counts, jobs) spare_nights(counts, jobs) latest_plan(counts, jobs)",
    "kinds": "slacks(kinds, wants) spare_rooms(kinds, wants) over_guests(kinds, wants)",
    "seatings": "seat_bar(kinds, wants) seating(kinds, wants) is_seating(kinds, wants, seats) upgrades(seats)"
                " upgrade_steps(kinds, seats) fewest_upgrades(kinds, wants) carries(kinds, wants)"
                " fewest_steps(kinds, wants)",
    "selling": "more_of(kinds, wants, name) open_counts(kinds, wants) can_take(kinds, wants, more)"
               " dearest_taken(kinds, wants, offers, pays) pay_of(taken, pays) tight_kind(kinds, wants, name)"
               " room_worth(kinds, wants, offers, pays, name)",
    "kindnights": "wants_at(kinds, bookings, night) spans_booked(bookings) first_barred(kinds, bookings)"
                  " all_nights(bookings) upgrades_over(kinds, bookings) seatings_over(kinds, bookings)"
                  " more_over(kinds, bookings, name, span) narrow_nights(kinds, bookings, span)"
                  " slack_rows(kinds, bookings, span)",
    "networks": "covers_of(size, spans, chosen)",
    "papers": "least_choice(lows, highs, spans, costs) price_of(span, ups, downs) flags_of(size, chosen)"
              " is_choice(lows, highs, spans, chosen) is_paper(lows, highs, spans, costs, chosen, ups, downs)"
              " paper_value(lows, highs, spans, costs, ups, downs) is_cut(lows, highs, spans, plus, minus)",
    "moving": "movable(stays) least_moves(needs, free, stays) is_least_moves(needs, free, stays, moved, ups, downs)"
              " is_move_cut(needs, free, stays, plus, minus) moved_covers(size, stays, moved) cost_of(stays, moved)"
              " needed_more(needs, stays, moved) moved_too_many(free, stays, moved)",
    "income": "best_requests(rooms, requests) greatest_pay(rooms, requests) pay_for(requests, taken)"
              " find_room(rooms, requests, taken) is_price_paper(rooms, requests, taken, prices)"
              " price_bound(rooms, requests, prices) span_price(prices, span) left_rooms(rooms, requests, taken)"
              " greedy_requests(rooms, requests)",
    "bids": "bid(rooms, requests, span) pay_without(rooms, requests, index) pay_with(rooms, requests, index)"
            " sure_requests(rooms, requests) possible_requests(rooms, requests) room_worths(rooms, requests)"
            " room_losses(rooms, requests) taken_for(rooms, requests, span, pay)"
            " cheapest_span(rooms, requests, length)",
    "groups": "is_coming(group, pairs) stays_of(group, pairs)",
    "channels": "is_sale(channel, spans)",
    "courses": "is_course(plan, course) house_spans(plan, course, moved) annex_spans(plan, moved)"
               " guests_at(plan, course, moved, night) worst_course(plan, night) quiet_course(plan)"
               " course_rooms(plan, course, moved, choice=0) course_keeps(plan, course, moved)",
    "verdicts": "verdict(plan) is_shown(plan, answer) first_breach(plan, moved) is_kept(plan, moved)"
                " breaking_course(plan, moved) least_rooms_for(plan) slack_nights(plan, moved)"
                " can_still_sell(plan, moved, span)",
    "sureincome": "gains_of(offers) fees_of(offers) poorest_comers(group, offers) richest_comers(group, offers)"
                  " pay_if(offers, comers) sure_pay(group, offers) greatest_group_pay(group, offers)"
                  " pay_spread(group, offers) sure_request(pay, fee) all_sure(groups, offers)"
                  " least_for(group, offers, wanted)",
    "bestsure": "best_taking(rooms, groups, offers, requests) group_bid(rooms, groups, offers, requests, group)"
                " taken_in_all(rooms, groups, offers, requests, number)",
    "standing": "standing(wire, name) reachable(wire, name) total_rows(wire, rows) book_of(wire)"
                " first_over_rooms(wire, totals) open_night(wire) breakable_night(wire) sold_total(wire)"
                " is_oversold(wire) spare_row(wire) told_open(wire, name, table) tell_safely(wire, name, table)"
                " sell_safely(wire, span) widest_table(wire, name) is_book(wire, book) book_shows(wire, book)",
    "breaking": "gain_steps(line, night) breaking_steps_at(wire, night) breaking_steps(wire) do_step(wire, step)"
                " breaks(wire, steps)",
    "resets": "resets_open(rooms, channels) same_wish(limits, sold) drift(limits, sold, unheard)",
    "tariffs": "percent_off(percents, nights)",
    "comparing": "difference(one, two, day, nights) steady_from(one, two) weekly_drift(one, two) window(one, two)"
                 " first_positive(value, drift) dearer_in_window(one, two) first_dearer(one, two)"
                 " never_dearer(one, two) first_unlike(one, two) greatest_excess(one, two)"
                 " last_not_dearer(one, two, day) dearer_from(one, two, day) is_dearer(one, two, pair)"
                 " cheaper_days(one, two, nights)",
    "splitting": "split_gain(tariff, day, nights, ahead) first_split(tariff) is_split_proof(tariff)"
                 " cheapest_parts(tariff, day, nights) parts_points(tariff, day, parts)"
                 " saved_points(tariff, day, nights) proofed(tariff, most) is_subadditive(rows)",
    "offers": "quotes(offers, span) best_offer(offers, span)",
    "ways": "cheapest_way(offers, span) offer_named(offers, name) way_cents(offers, way) fills(way, span)"
            " is_way(offers, span, way) saved_cents(offers, span) first_saving(offers, first, most)",
    "splits": "floors_of(total, weights) rests_of(total, weights) split_cents(total, weights)"
              " even_split(total, many) is_split(total, weights, parts) greatest_rest_first(total, weights, parts)",
    "taxes": "half_up(top, bottom) rounded(top, bottom)",
    "events": "is_event(value) want_event(value) minute_of(event) last_told(events, word) voided(events)"
              " standing_events(events, word)",
    "bills": "state_of(folio) stay_of(folio) span_stayed(folio) price_of_nights(offer, span) stay_lines(rules, folio)"
             " penalty_lines(rules, folio) charge_lines(folio) shares_of(folio) paid_sum(folio) bill(rules, folio)"
             " paid_by(folio) owed_by(rules, folio)",
    "daily": "gathered(pairs) daily(rules, folio) daily_of(rules, folios) on_day(pairs, day) up_to(pairs, day)",
    "shares": "are_quotas(value, rooms, size) incomes_from(pays, quotas) is_less(one, two) lowest(top, bottom)"
              " class_shares(rooms, pays, quotas) share_of(rooms, pays, quotas) best_quotas(rooms, pays)"
              " best_share(rooms, pays) worst_arrivals(rooms, pays, quotas)",
    "frontdesk": "run_course(plan, course, moved, wishes=()) rooms_in_log(log)",
    "whatif": "is_good(plan) with_rooms(plan, rooms, annex) most_wanted(plan) least_house(plan) least_annex(plan)"
              " with_group(plan, name, group) with_channel(plan, name, channel) bounded(group, most)"
              " greatest_most(plan, name) capped(channel, most) greatest_cap(plan, name) without_single(plan, index)"
              " relieving_singles(plan)",
    "relief": "common_nights(one, other) needs_at(plan, nights) spare_at(plan, nights) relief_to(one, other)",
    "waiting": "taken_in_turn(rooms, spans)",
    "trials": "tried(house, deeds) batched(house, deeds)",
    "histories": "replayed(rooms, annex, journal)",
    "notes": "format_plan(plan) parse_plan(text)",
    "foliotexts": "format_folio(folio) parse_folio(text)",
    "reports": "arrivals_at(spans, night) departures_at(spans, night) staying_at(spans, night)"
               " night_row(spans, rooms, night) report(spans, rooms, first, leave) course_report(plan, course, moved)"
               " occupancy(spans, rooms, first, leave) is_balanced(spans, night) worst_rows(plan)"
               " house_lists(plan, course, moved, night) fullest_nights(spans, rooms, first, leave)",
}

CLASSES = {
    "nightsets.Nights": ("(spans)", "covers(span) on_weekdays(days) gaps() __len__() __iter__() __eq__(other)"
                                    " __contains__(x) __or__(other) __and__(other) __sub__(other)", ""),
    "kinds.Kinds": ("(pairs)", "place(name) without_rooms(name, many) __len__() __iter__() __eq__(other)"
                               " __contains__(x)", "names room_counts"),
    "papers.Choice": ("(chosen, cost, ups, downs, plus, minus)", "", ""),
    "groups.Group": ("(name, spans, least, most, late_guests=0, late_nights=0)",
                     "fields() there(night) staying_on(night) worst(night) worst_comers(night) __len__()"
                     " __eq__(other)", ""),
    "channels.Channel": ("(name, counts, least_stay=1)", "fields() at(night) back(night, reach) ahead(night, reach)"
                                                         " worst(night) worst_sales(night) __eq__(other)", ""),
    "plans.Plan": ("(rooms, annex, singles, groups=(), channels=(), upkeep=(), annex_stays=())",
                   "fields() nights() worst(night) annex_load(night) needs() free() stays() __eq__(other)", ""),
    "moving.Moves": ("(done, moved, cost, ups, downs, plus, minus)", "", ""),
    "income.Income": ("(taken, pay, prices)", "", ""),
    "courses.Course": ("(comers, sales)", "__eq__(other)", ""),
    "verdicts.Verdict": ("(word, moved, cost, ups, downs, plus, minus)", "", ""),
    "bestsure.Taking": ("(groups, requests, pay, prices)", "", ""),
    "wires.Wire": ("(rooms, tables)", "state() line(name) tell(name, table) arrive(name) sell(name, span) hear(name)"
                                      " sell_own(span, many=1) on_the_way(name) __eq__(other)", "names"),
    "resets.Reset": ("(table)", "tell(table) arrive() sell(span) reachable()", ""),
    "tariffs.Tariff": ("(week, percents=())", "left(nights) rates(day, nights) points(day, nights) scaled(percent)"
                                              " __eq__(other)", "steady"),
    "offers.Offer": ("(name, week, percents=(), seasons=(), free=None, *, least=1, most=60, days=(0, 1, 2, 3, 4, 5, 6))",
                     "fields() rate(night) rates(span) is_open(span) free_nights(span) rated(span) price(span)"
                     " __eq__(other)", ""),
    "taxes.Taxes": ("(night_cents, percent)", "for_nights(many) on(cents) within(cents) net(cents) __eq__(other)", ""),
    "policies.Policy": ("(steps, late, absent)", "fields() nights_charged(minute, first) penalty(rates, nights) is_mild()"
                                                 " __eq__(other)", ""),
    "folios.Folio": ("(events=())", "tell(event) joined(other) is_part_of(other) until(minute) after(other) clash(other)"
                                    " __len__() __iter__() __contains__(x) __eq__(other)", "events"),
    "bills.Bill": ("(lines, paid, shares)", "fields() __eq__(other)", ""),
    "bills.Rules": ("(offers, policy, taxes)", "", ""),
    "audits.Audit": ("(rules)", "posted(day) posted_days() differences(day, folios) close(day, folios) is_square(folios)"
                                " corrections() report(closing) total() __len__()", "entries closed days_closed"),
    "gates.Gate": ("(rooms, pays, quotas)", "state() lets_in(number) ask(number) ask_all(numbers) income() best_income()"
                                            " share() is_sure() free() __eq__(other)", ""),
    "frontdesk.FrontDesk": ("(rooms, night=0)", "free() room_of(guest) arrive(guest, room=None) leave(guest) end_night()"
                                                " __len__() __contains__(x)", "log"),
    "relief.Relief": ("(moved, cost, ups, downs, plus, minus)", "", ""),
    "relief.Chain": ("()", "add_house(name, plan) plan_of(name) takers(span) reliefs(name) best_relief(name)", "names"),
    "waiting.WaitingList": ("(rooms)", "ask(name, span) give_up(name) inside() waiting() free_at(night) place(name)"
                                       " barred_by(name) __len__()", "names"),
    "houses.House": ("(rooms, annex)", "verdict() moved() cost() sell(name, span, cost=None) bring(group)"
                                       " open_channel(channel) keep_up(span) cancel(name) lend(span)"
                                       " could_sell(span, cost=None) __contains__(x)", "plan names"),
    "trials.Trial": ("(house)", "__enter__() __exit__(kind, value, trace)", ""),
    "trials.Batch": ("(house)", "__enter__() __exit__(kind, value, trace)", ""),
    "histories.History": ("(rooms, annex)", "do(deed) undo() redo() __len__()", "deeds journal"),
    "desks.Desk": ("(rooms, annex)", "execute(command) execute_all(commands)", "present_house log"),
}


def forms_of(text):
    """The names and parameters of a text like `one(a, b=()) two(c=0)`."""
    return re.findall(r"(\w+)(\((?:[^()]|\(\))*\))", text)


def module_of(name):
    return importlib.import_module("keptnights." + name)


class TestInterface(Case):
    def test_functions_stand_in_their_files(self):
        for file, text in FUNCTIONS.items():
            for name, parameters in forms_of(text):
                function = getattr(module_of(file), name)
                self.assertEqual(str(inspect.signature(function)), parameters, name)
                self.assertEqual(function.__module__, "keptnights." + file)

    def test_classes_and_their_methods_stand_in_their_files(self):
        for place, (parameters, methods, properties) in CLASSES.items():
            file, name = place.split(".")
            made = getattr(module_of(file), name)
            self.assertEqual(made.__module__, "keptnights." + file)
            self.assertEqual(str(inspect.signature(made)), parameters)
            for method, rest in forms_of(methods):
                own = list(inspect.signature(vars(made)[method]).parameters.values())[1:]
                self.assertEqual("(" + ", ".join(str(one) for one in own) + ")", rest, method)
            for own in properties.split():
                self.assertIsInstance(vars(made)[own], property)

    def test_the_package_is_nothing_but_a_docstring(self):
        package = importlib.import_module("keptnights")
        source = inspect.getsource(package).strip()
        self.assertTrue(source.startswith('"""') and source.endswith('"""') and source.count('"""') == 2)
