"""Promise 1 over the whole program: each refusal is its own kind, apart and behind others, and changes nothing."""

import random
import unittest

from recurwright import (
    alarms, books, calendars, clashes, clocks, counts, crons, days, desks, eras, errors, histories, hours, meets, moons, plans, rates,
    records, rings, rules, seasons, sheets, spans, spells, terms, trips, weeks, words, workdays, zones,
)
from recurwright.errors import (
    BadCalendar, BadDay, BadPaper, BadRule, BadSize, BadStore, BadText, BadTime, BadZone, NoDay, NoSuch,
)

DAY = clocks.DAY
SIX = rules.Every("days", 6, 0)
NEVER = rules.never()
FIRST = rules.Is("day", (0,))
# It comes again after more cycles than are gone through.
LATE = rules.Every("years", 7001, 0)


class World:
    """Objects of all kinds, made anew: what is refused must leave them as they are."""

    def __init__(self):
        # Months of 5, 7 and 6 days, the second of them with a day more each third year, in weeks of 4 days.
        self.calendar = calendars.Calendar((5, 7, 6), 1, 3, (1,), 4, 1)
        self.day = days.Day(self.calendar, 20)
        self.counter = counts.Counter(self.calendar, SIX)
        self.none = counts.Counter(self.calendar, NEVER)
        self.papers = self.counter.papers()
        self.works = workdays.Works(self.calendar, rules.Not(SIX), FIRST)
        self.zone = zones.Zone(0, [(50 * DAY, 3600), (90 * DAY, 0)])
        self.plan = self.made_plan(SIX)
        self.book = books.Book()
        self.book.put("a", self.plan)
        self.bare = books.Book()
        self.reader = words.Reader("is day 0")
        self.ring = rings.Ring(10, (1, 5))
        self.no_ring = rings.Ring(10, ())
        self.hours = hours.Hours(2, [[(5, 9)], ()])
        self.shut = hours.Hours(1, [()])
        self.always_open = hours.Hours(1, [[(0, DAY)]])
        self.cron = crons.Cron(self.calendar, "0 0 * * *")
        self.never = crons.Cron(self.calendar, "0 0 8 1 *")
        self.rides = [trips.Ride(self.calendar, rules.always(), "a", 50, "b", 10), trips.Ride(self.calendar, SIX, "b", 70, "c", 10),
                      trips.Ride(self.calendar, rules.always(), "b", 90, "c", 10)]
        self.table = trips.earliest(self.rides, "a", 0, 5)
        self.pair = eras.Pair(self.calendar, calendars.Calendar((5, 8), 0, 1, (), 3), 1)
        self.reigns = eras.Reigns([("x", 3), ("y", 40), ("x", 80)])
        self.alarms = alarms.Alarms()
        self.alarms.put("a", self.plan, 60)
        self.told = alarms.Alarms()
        self.told.put("a", self.plan, 60)
        self.told.tell(9 * DAY)
        self.told.put_off((0, "a", 60), 5)
        self.history = histories.History({"a": 1})
        self.history.put("b", 2)
        self.history.put("b", 3)
        self.history.undo()
        self.moons = moons.Moons((59, 2), (365, 1))
        self.rates = rates.Rates(self.calendar, [(SIX, [(5, 9, 2)])], 1)
        self.records = records.Records()
        self.records.tell(5, "a", 1, 0, 9)
        self.desk = desks.Desk(self.calendar)
        self.desk.say("put a 0-1-1 09.00 1h every 6 days from 0")
        self.text = self.desk.text

    def made_plan(self, rule, time=50, length=60, first=0, last=30):
        return plans.Plan(self.calendar, rule, time, length, self.zone, first, last)


def shown(value, seen):
    """All that a value holds, as plain rows; what only keeps what was worked out may change."""
    if isinstance(value, (list, tuple)):
        return [shown(each, seen) for each in value]
    if isinstance(value, dict):
        return sorted(([repr(key), shown(value[key], seen)] for key in value), key=repr)
    if not hasattr(value, "__dict__") or id(value) in seen:
        return repr(value) if not hasattr(value, "__dict__") else None
    return [type(value).__name__, shown({name: worth for name, worth in vars(value).items() if name != "kept"}, seen | {id(value)})]


def calendar_of(months=(5, 6), long_month=0, cycle=2, long_years=(1,), week=3, first_weekday=0):
    return lambda w: calendars.Calendar(months, long_month, cycle, long_years, week, first_weekday)


REFUSED = [
    # calendars
    (BadCalendar, calendar_of(months=())), (BadCalendar, calendar_of(months=(5, 0))), (BadCalendar, calendar_of(cycle=0, long_years=())),
    (BadCalendar, calendar_of(week=0)), (BadCalendar, calendar_of(first_weekday=3)), (BadCalendar, calendar_of(first_weekday=-1)),
    (BadCalendar, calendar_of(long_month=2)), (BadCalendar, calendar_of(long_month=-1)), (BadCalendar, calendar_of(long_years=(2,))),
    (BadCalendar, calendar_of(long_years=(0, -1))),
    (BadDay, lambda w: w.calendar.month_days(0, 3)), (BadDay, lambda w: w.calendar.month_days(0, -1)),
    (BadDay, lambda w: w.calendar.number_of(0, 1, 7)), (BadDay, lambda w: w.calendar.number_of(1, 1, 8)),
    (BadDay, lambda w: w.calendar.number_of(0, 0, -1)), (BadDay, lambda w: w.calendar.number_of(0, 3, 0)),
    # days
    (BadDay, lambda w: days.day_of(w.calendar, 0, 0, 5)), (BadDay, lambda w: days.day_of(w.calendar, 0, -1, 0)),
    (BadDay, lambda w: days.months_on(days.Day(w.calendar, 11), -1, False)),
    (BadDay, lambda w: days.years_on(days.day_of(w.calendar, 1, 1, 7), 1, False)),
    (BadDay, lambda w: days.nth_weekday(w.calendar, 0, 0, 4, 0)), (BadDay, lambda w: days.nth_weekday(w.calendar, 0, 0, -1, 0)),
    (BadDay, lambda w: days.nth_weekday(w.calendar, 0, 0, 0, 2)), (BadDay, lambda w: days.nth_weekday(w.calendar, 0, 0, 0, -2)),
    (BadDay, lambda w: days.nth_weekday(w.calendar, 0, 3, 0, 0)),
    (BadSize, lambda w: days.between(w.day, days.Day(w.calendar, 19))), (BadSize, lambda w: days.age(w.day, days.Day(w.calendar, 19))),
    (BadSize, lambda w: days.quarter(w.day, 0)), (BadSize, lambda w: days.quarter(w.day, 2)),
    # weeks
    (BadDay, lambda w: weeks.from_week(w.calendar, 0, -1, 0)), (BadDay, lambda w: weeks.from_week(w.calendar, 0, 5, 0)),
    (BadDay, lambda w: weeks.from_week(w.calendar, 0, 0, 4)), (BadDay, lambda w: weeks.from_week(w.calendar, 0, 0, -1)),
    (BadDay, lambda w: weeks.weekdays_between(w.calendar, 0, 9, 4)), (BadDay, lambda w: weeks.weekdays_between(w.calendar, 9, 0, -1)),
    # rules
    (BadRule, lambda w: rules.Is("hour", (0,))), (BadRule, lambda w: rules.Is("day", ())), (BadRule, lambda w: rules.Is("day", (3, -1))),
    (BadRule, lambda w: rules.part_of(w.day, "hour")), (BadRule, lambda w: rules.Every("hours", 1, 0)),
    (BadRule, lambda w: rules.Every("days", 0, 0)), (BadRule, lambda w: rules.unit_of(w.day, "day")),
    (BadRule, lambda w: rules.Pick(SIX, "week", (0,))), (BadRule, lambda w: rules.Pick(SIX, "month", ())),
    # counts
    (BadRule, lambda w: counts.period_of(w.calendar, LATE)), (BadRule, lambda w: counts.Counter(w.calendar, LATE)),
    (BadSize, lambda w: w.counter.between(1, 0)), (NoDay, lambda w: w.none.at(0)), (NoDay, lambda w: w.none.nth(0, -5)),
    (NoDay, lambda w: w.none.next(0)), (NoDay, lambda w: w.none.last_ahead(0)), (BadSize, lambda w: w.counter.days_between(1, 0)),
    (BadPaper, lambda w: counts.check_papers(w.calendar, SIX, (0, w.papers[1]))),
    (BadPaper, lambda w: counts.check_papers(w.calendar, SIX, (w.papers[0] + 1, w.papers[1]))),
    (BadPaper, lambda w: counts.check_papers(w.calendar, SIX, (w.papers[0], {}))),
    (BadPaper, lambda w: counts.check_papers(w.calendar, SIX, (w.papers[0], {sign: () for sign in w.papers[1]}))),
    (BadRule, lambda w: counts.check_papers(w.calendar, LATE, w.papers)),
    # clashes
    (BadRule, lambda w: clashes.both_rules(w.calendar, SIX, LATE)), (BadRule, lambda w: clashes.never_meet(w.calendar, SIX, LATE)),
    (BadRule, lambda w: clashes.first_meeting(w.calendar, SIX, LATE, 0)), (NoDay, lambda w: clashes.first_meeting(w.calendar, SIX, NEVER, 0)),
    (BadRule, lambda w: clashes.same_days(w.calendar, SIX, LATE)), (BadRule, lambda w: clashes.within(w.calendar, SIX, LATE)),
    (BadRule, lambda w: clashes.first_unlike(w.calendar, SIX, LATE, 0)), (BadRule, lambda w: clashes.covers_all(w.calendar, (SIX, LATE))),
    (NoDay, lambda w: clashes.longest_gap(w.none)), (NoDay, lambda w: clashes.gaps(w.none)),
    (BadRule, lambda w: clashes.pairs(w.calendar, (SIX, LATE))),
    # workdays
    (NoDay, lambda w: workdays.Works(w.calendar, SIX, SIX)), (BadRule, lambda w: workdays.Works(w.calendar, SIX, LATE)),
    (BadSize, lambda w: w.works.between(1, 0)), (BadRule, lambda w: w.works.to_worked(1, "back")), (BadRule, lambda w: w.works.to_worked(0, "")),
    (BadDay, lambda w: w.works.last_of_month(0, 3)), (BadDay, lambda w: w.works.nth_of_month(0, -1, 0)),
    (BadRule, lambda w: workdays.paid(w.works, w.counter, 0, 9, "within week")),
    # clocks
    (BadTime, lambda w: clocks.check_time(-1)), (BadTime, lambda w: clocks.check_time(DAY)), (BadTime, lambda w: clocks.time_of(24, 0)),
    (BadTime, lambda w: clocks.time_of(0, 60)), (BadTime, lambda w: clocks.time_of(0, 0, -1)), (BadTime, lambda w: clocks.parts_of(DAY)),
    (BadTime, lambda w: clocks.told_time(-1)), (BadText, lambda w: clocks.read_time("9.00")), (BadText, lambda w: clocks.read_time("09")),
    (BadTime, lambda w: clocks.read_time("24.00")), (BadTime, lambda w: clocks.told_length(-1)), (BadText, lambda w: clocks.read_length("")),
    (BadText, lambda w: clocks.read_length("1m1h")), (BadText, lambda w: clocks.read_length("01s")), (BadTime, lambda w: clocks.rounded(5, 0)),
    # zones
    (BadZone, lambda w: zones.Zone(DAY)), (BadZone, lambda w: zones.Zone(0, [(5, -DAY)])), (BadZone, lambda w: zones.Zone(0, [(5, 1), (5, 2)])),
    # seasons
    (NoDay, lambda w: seasons.turn_days(w.calendar, seasons.Turn(rules.Every("years", 2, 0), 0, 0), 0, 1)),
    (NoDay, lambda w: seasons.turn_days(w.calendar, seasons.Turn(NEVER, 0, 0), 0, 0)),
    (BadRule, lambda w: seasons.turn_days(w.calendar, seasons.Turn(LATE, 0, 0), 0, 0)),
    (BadZone, lambda w: seasons.zone_of(w.calendar, 0, [seasons.Turn(SIX, 5, 60), seasons.Turn(SIX, 5, 0)], 0, 1)),
    (BadZone, lambda w: seasons.zone_of(w.calendar, 0, [seasons.Turn(SIX, 5, DAY)], 0, 1)),
    (NoDay, lambda w: seasons.zone_of(w.calendar, 0, [seasons.Turn(NEVER, 0, 0)], 0, 1)),
    (BadRule, lambda w: seasons.zone_of(w.calendar, 0, [seasons.Turn(LATE, 0, 0)], 0, 1)),
    # spells
    (BadTime, lambda w: spells.Spell(-1)), (BadTime, lambda w: spells.Spell(0, -1)), (BadTime, lambda w: spells.Spell(1, 1, -1)),
    (BadTime, lambda w: spells.times(spells.Spell(1), -1)), (BadText, lambda w: spells.read_spell(w.calendar, "")),
    (BadText, lambda w: spells.read_spell(w.calendar, "1dt")), (BadText, lambda w: spells.read_spell(w.calendar, "1d1n")),
    (BadText, lambda w: spells.read_spell(w.calendar, "1dt1")), (BadTime, lambda w: spells.most_between(w.calendar, 1, 0)),
    # spans
    (BadTime, lambda w: spans.check_span((5, 5))), (BadTime, lambda w: spans.together([(0, 9), (5, 4)])),
    (BadTime, lambda w: spans.both([(0, 9)], [(4, 4)])), (BadTime, lambda w: spans.without([(0, 9)], [(4, 4)])),
    (BadTime, lambda w: spans.without([(9, 9)], [])), (BadTime, lambda w: spans.free([], 5, 5)), (BadTime, lambda w: spans.free([(1, 1)], 0, 5)),
    (BadTime, lambda w: spans.total([(1, 1)])), (BadTime, lambda w: spans.first_free([], 0, 0)),
    (BadTime, lambda w: spans.first_free([], 0, 1, 0)), (BadTime, lambda w: spans.first_free([(1, 1)], 0, 1)),
    (NoDay, lambda w: spans.deepest([])), (BadTime, lambda w: spans.deepest([(1, 1)])), (BadTime, lambda w: spans.covers([], (1, 1))),
    (BadTime, lambda w: spans.covers([(1, 1)], (0, 1))), (BadTime, lambda w: spans.clashing([(0, 5), (1, 1)])),
    # plans
    (BadTime, lambda w: w.made_plan(SIX, length=0)), (BadTime, lambda w: w.made_plan(SIX, first=5, last=4)),
    (BadTime, lambda w: w.made_plan(SIX, time=DAY)), (BadTime, lambda w: w.made_plan(SIX, time=-1)), (BadRule, lambda w: w.made_plan(LATE)),
    (BadTime, lambda w: w.made_plan(LATE, length=0)), (BadRule, lambda w: w.made_plan(LATE, time=DAY)),
    (NoSuch, lambda w: w.plan.drop(1)), (NoSuch, lambda w: w.plan.drop(36)), (NoSuch, lambda w: w.plan.add(6)),
    (NoSuch, lambda w: w.plan.move(1, 5)), (NoSuch, lambda w: w.plan.move(1, -5)), (BadTime, lambda w: w.plan.move(6, DAY)),
    (NoSuch, lambda w: w.plan.span(1)), (NoDay, lambda w: w.plan.next_day(25)),
    # books
    (NoSuch, lambda w: w.book.put("a", w.made_plan(NEVER))), (NoSuch, lambda w: w.book.take("b")), (NoSuch, lambda w: w.book.here("b")),
    (NoDay, lambda w: w.book.next(25)), (NoDay, lambda w: w.bare.next(0)), (BadTime, lambda w: w.book.room(0, 9, 0, 0, 1)),
    (BadTime, lambda w: w.bare.room(0, 9, 0, 1, 0)), (BadSize, lambda w: books.common_room([], 0, 9, 0, 1, 1)),
    (BadSize, lambda w: books.common_room((), 0, 9, 0, 0, 0)), (BadTime, lambda w: books.common_room([w.book], 0, 9, 0, 0, 1)),
    # words
    (BadText, lambda w: w.reader.take("not")), (BadText, lambda w: words.Reader("").take()), (BadText, lambda w: w.reader.take_number()),
    (BadText, lambda w: w.reader.take_numbers()), (BadText, lambda w: w.reader.inner()), (BadText, lambda w: w.reader.row()),
    (BadText, lambda w: words.Reader("is hour 0").take_rule()), (BadText, lambda w: words.Reader("every 2 hours from 0").take_rule()),
    (BadText, lambda w: words.Reader("pick week 0 (is day 0)").take_rule()), (BadText, lambda w: words.Reader("some").take_rule()),
    (BadRule, lambda w: words.Reader("is day -1").take_rule()), (BadRule, lambda w: words.Reader("every 0 days from 0").take_rule()),
    (BadRule, lambda w: words.Reader("(is day -1)").inner()), (BadRule, lambda w: words.Reader("(is day 0, is day -1)").row()),
    (BadText, lambda w: words.whole("01")), (BadText, lambda w: words.whole("-0")), (BadText, lambda w: words.whole("12345678")),
    (BadText, lambda w: words.read("is day 0 0")), (BadText, lambda w: words.read("")), (BadRule, lambda w: words.read("not (is day -1)")),
    # terms
    (BadSize, lambda w: terms.business_year(w.calendar, 0, 3)), (BadSize, lambda w: terms.business_year(w.calendar, 0, -1)),
    (BadSize, lambda w: terms.part_of_business(w.calendar, 0, 0, 2)), (BadSize, lambda w: terms.part_of_business(w.calendar, 0, 3, 1)),
    (BadSize, lambda w: terms.start_of_part(w.calendar, 0, 3, 0, 1)), (BadSize, lambda w: terms.start_of_part(w.calendar, 0, 0, 0, 0)),
    (BadSize, lambda w: terms.start_of_part(w.calendar, 0, 0, 3, 1)), (BadSize, lambda w: terms.start_of_part(w.calendar, 0, 0, -1, 1)),
    (BadSize, lambda w: terms.weeks_pattern(w.calendar, 0, (), 5)), (BadSize, lambda w: terms.weeks_pattern(w.calendar, 0, (4, 0), 5)),
    (BadSize, lambda w: terms.even_months(w.calendar, 1, 0, 30)), (BadSize, lambda w: terms.even_months(w.calendar, 0, 1, 0)),
    (BadSize, lambda w: terms.share_of_years(w.calendar, 1, 0)), (BadSize, lambda w: terms.spread(5, 0)),
    # meets
    (NoDay, lambda w: meets.best_day(w.calendar, [(SIX, 1)], 5, 5)), (BadRule, lambda w: meets.soonest_for_all(w.calendar, (SIX, LATE), 0, 1)),
    (NoDay, lambda w: meets.soonest_for_all(w.calendar, (SIX, NEVER), 0, 1)), (BadSize, lambda w: meets.turns(0, w.counter, 0, 1)),
    (NoDay, lambda w: meets.turns(1, w.none, 0, 1)), (BadSize, lambda w: meets.turn_on(0, w.counter, 0)),
    (BadSize, lambda w: meets.shifts((1,), -1, 1)), (BadSize, lambda w: meets.shifts((1,), 1, 0)), (BadSize, lambda w: meets.shifts((1, -1), 1, 1)),
    (NoDay, lambda w: meets.shifts((1, 2), 1, 5)), (NoDay, lambda w: meets.shifts((1, 1), 1, 1)),
    (BadPaper, lambda w: meets.check_shifts((1,), [(0, 1)], 2, 1)), (BadPaper, lambda w: meets.check_shifts((2,), [(0, 0)], 2, 1)),
    (BadPaper, lambda w: meets.check_shifts((1,), [(2,)], 2, 1)), (BadPaper, lambda w: meets.check_shifts((1, 1), [(0,), (0,)], 2, 1)),
    # rings
    (BadSize, lambda w: rings.Ring(0, ())), (BadSize, lambda w: rings.Ring(5001, ())), (NoDay, lambda w: w.no_ring.at(0)),
    (NoDay, lambda w: w.no_ring.next(0)), (BadSize, lambda w: rings.widened(w.ring, 0)), (BadSize, lambda w: rings.widened(w.ring, 501)),
    (BadSize, lambda w: rings.paired(w.ring, rings.Ring(4999, ()))), (BadSize, lambda w: rings.either(w.ring, rings.Ring(4999, ()))),
    (BadSize, lambda w: rings.common_to(w.ring, rings.Ring(4999, ()))), (BadSize, lambda w: rings.meeting(0, 0, 0, 1)),
    (BadSize, lambda w: rings.meeting(0, 1, 0, 0)), (BadSize, lambda w: rings.many_between(w.ring, 1, 0)),
    # hours
    (BadTime, lambda w: hours.Hours(0, [])), (BadTime, lambda w: hours.Hours(2, [()])), (BadTime, lambda w: hours.Hours(1, [[(0, DAY + 1)]])),
    (BadTime, lambda w: hours.Hours(1, [()], [(5, [(4, 4)])])), (BadTime, lambda w: w.hours.between(1, 0)),
    (NoDay, lambda w: w.shut.next_open(0)), (NoDay, lambda w: w.always_open.next_shut(0)), (BadTime, lambda w: w.hours.add(0, -1)),
    (BadTime, lambda w: w.shut.add(0, -1)), (NoDay, lambda w: w.shut.add(0, 1)), (BadTime, lambda w: hours.day_spans([(-1, 5)])),
    (BadTime, lambda w: hours.day_spans([(5, 5)])),
    # crons
    (BadText, lambda w: crons.numbers_of("", 0, 9)), (BadText, lambda w: crons.numbers_of("5-4", 0, 9)), (BadText, lambda w: crons.numbers_of("*/0", 0, 9)),
    (BadText, lambda w: crons.numbers_of("100", 0, 200)), (BadText, lambda w: crons.number_of("")), (BadText, lambda w: crons.number_of("-1")),
    (BadText, lambda w: crons.Cron(w.calendar, "* * * *")), (BadText, lambda w: crons.Cron(w.calendar, "* * 9 * *")),
    (BadRule, lambda w: crons.Cron(calendars.Calendar((5,), 0, 5000, (0,), 7), "* * * * *")), (NoDay, lambda w: w.never.at(0)),
    (NoDay, lambda w: w.never.next(0)), (NoDay, lambda w: w.never.last_ahead(0)), (NoDay, lambda w: crons.first_of_all([w.never], 0)),
    (NoDay, lambda w: crons.first_of_all((), 0)),
    # trips
    (BadTime, lambda w: trips.Ride(w.calendar, SIX, "a", DAY, "b", 1)), (BadTime, lambda w: trips.Ride(w.calendar, SIX, "a", 0, "b", 0)),
    (BadTime, lambda w: trips.Ride(w.calendar, LATE, "a", 0, "a", 1)), (BadRule, lambda w: trips.Ride(w.calendar, LATE, "a", 0, "b", 1)),
    (NoDay, lambda w: trips.way(w.rides, "b", "a", 0, 0)), (NoDay, lambda w: trips.way([], "a", "b", 0, 0)),
    (BadPaper, lambda w: trips.check_way(w.rides, "a", "b", 1, 5, ((0, 50),), w.table)),
    (BadPaper, lambda w: trips.check_way(w.rides, "a", "b", 0, 5, ((0, 50),), {**w.table, "c": 99})),
    (BadPaper, lambda w: trips.check_way(w.rides, "a", "b", 0, 5, ((3, 50),), w.table)),
    (BadPaper, lambda w: trips.check_way(w.rides, "a", "b", 0, 5, ((0, 51),), w.table)),
    (BadPaper, lambda w: trips.check_way(w.rides, "a", "c", 0, 5, ((0, 50), (2, 90)), w.table)),
    # eras
    (BadDay, lambda w: w.pair.across(0, 0, 5)), (BadDay, lambda w: w.pair.back(0, 2, 0)), (NoSuch, lambda w: w.pair.both_begin(0, "week", 9)),
    (NoDay, lambda w: w.pair.both_begin(0, "month", 1)), (BadSize, lambda w: eras.Reigns(())), (BadSize, lambda w: eras.Reigns([("a", 5), ("b", 5)])),
    (NoSuch, lambda w: w.reigns.reign(2)), (NoSuch, lambda w: w.reigns.told(w.calendar, 2)),
    (NoSuch, lambda w: w.reigns.day_number(w.calendar, "z", 1, 0, 0)), (NoSuch, lambda w: w.reigns.day_number(w.calendar, "y", 9, 0, 0)),
    (NoSuch, lambda w: w.reigns.day_number(w.calendar, "x", 1, 0, 5)), (BadDay, lambda w: w.reigns.day_number(w.calendar, "x", 1, 3, 0)),
    (NoSuch, lambda w: w.reigns.years_of(w.calendar, 2)), (NoSuch, lambda w: w.reigns.years_of(w.calendar, -1)),
    # alarms
    (NoSuch, lambda w: w.alarms.put("a", w.plan, -5)), (BadTime, lambda w: w.alarms.put("b", w.plan, -5)), (NoSuch, lambda w: w.alarms.take("b")),
    (BadTime, lambda w: w.told.tell(9 * DAY - 1)), (NoSuch, lambda w: w.told.put_off((0, "b", 0), -5)), (BadTime, lambda w: w.told.put_off((0, "a", 0), -5)),
    (BadTime, lambda w: w.alarms.put_off((0, "a", 0), 5)),
    # histories
    (NoSuch, lambda w: w.history.take("c")), (NoSuch, lambda w: histories.History().undo()), (NoSuch, lambda w: histories.History().redo()),
    (NoSuch, lambda w: w.history.at(2)), (NoSuch, lambda w: w.history.at(-1)), (NoSuch, lambda w: w.history.between(0, 2)),
    (NoSuch, lambda w: w.history.between(-1, 0)), (NoSuch, lambda w: histories.patched(w.history.rows, [("a", 1, 2), ("a", 1, 3)])),
    # moons
    (BadCalendar, lambda w: moons.Moons((0, 1), (9, 1))), (BadCalendar, lambda w: moons.Moons((5, 1), (9, 1), 10000)),
    (BadCalendar, lambda w: moons.Moons((5, 1), (5, 1))), (BadCalendar, lambda w: moons.Moons((1, 2), (5, 1))),
    (BadDay, lambda w: w.moons.number_of(0, 13, 0)), (BadDay, lambda w: w.moons.number_of(0, -1, 0)), (BadDay, lambda w: w.moons.number_of(0, 0, 29)),
    # sheets
    (BadDay, lambda w: sheets.month_rows(w.calendar, 0, 3)), (BadDay, lambda w: sheets.told_month(w.calendar, 0, -1)),
    (BadText, lambda w: sheets.read_month(w.calendar, ["1 2 "])), (BadText, lambda w: sheets.read_month(w.calendar, ["2"])),
    (BadText, lambda w: sheets.read_month(w.calendar, ["1   2"])), (BadText, lambda w: sheets.read_month(w.calendar, [])),
    (BadDay, lambda w: sheets.marks(w.calendar, SIX, 0, 3)), (BadDay, lambda w: sheets.day_by_sheet(w.calendar, 0, 0, 0, 0)),
    (BadDay, lambda w: sheets.day_by_sheet(w.calendar, 0, 3, 0, 0)), (BadDay, lambda w: sheets.day_by_sheet(w.calendar, 0, 0, 9, 0)),
    # rates
    (BadTime, lambda w: rates.Rates(w.calendar, [(LATE, [(5, 5, -1)])], -1)), (BadTime, lambda w: rates.Rates(w.calendar, [(LATE, [(0, 5, -1), (4, 9, 0)])], -1)),
    (BadRule, lambda w: rates.Rates(w.calendar, [(SIX, [(0, 5, -1)])], 0)), (BadRule, lambda w: rates.Rates(w.calendar, [], -1)),
    (BadRule, lambda w: rates.Rates(w.calendar, [(LATE, [])], 0)), (BadTime, lambda w: w.rates.cost(1, 0)), (BadRule, lambda w: w.rates.until(0, -1)),
    (BadTime, lambda w: rates.cheapest(w.rates, 0, 9, 0, 1)), (BadTime, lambda w: rates.cheapest(w.rates, 0, 9, 1, 0)),
    (BadTime, lambda w: rates.cheapest(w.rates, 0, 9, 10, 1)),
    # records
    (BadTime, lambda w: w.records.tell(4, "a", 1, 0)), (BadTime, lambda w: w.records.tell(5, "a", 1, 0, 0)), (NoSuch, lambda w: w.records.at("a", 9, 5)),
    (NoSuch, lambda w: w.records.at("a", 0, 4)), (NoSuch, lambda w: w.records.first_known("a", 0, 2)),
    # desks
    (BadText, lambda w: desks.read_day(w.calendar, "0-1")), (BadDay, lambda w: desks.read_day(w.calendar, "0-1-6")), (BadText, lambda w: w.desk.do("")),
    (BadText, lambda w: w.desk.do("take")), (BadDay, lambda w: w.desk.do("drop a 0-1-6")), (NoSuch, lambda w: w.desk.do("drop a 0-1-2")),
    (BadTime, lambda w: w.desk.do("move a 0-1-1 25.00")), (NoSuch, lambda w: w.desk.do("put a 0-1-1 09.00 1h all ()")),
    (BadText, lambda w: w.desk.answer(["hello"])), (BadText, lambda w: w.desk.answer(())), (BadText, lambda w: w.desk.answer(["names", "x"])), (NoSuch, lambda w: w.desk.answer("nth b 0-1-1 0".split())),
    (BadStore, lambda w: desks.lines_of(w.text[1:])), (BadStore, lambda w: desks.done_again(w.text + w.text)),
    (BadStore, lambda w: desks.done_again(w.text, calendars.Calendar((5,), 0, 5000, (0,), 7))),
]
EXPECTED = sorted({error.__name__ for error, refused in REFUSED} | {"CalendarFault"})


class RefusalsTest(unittest.TestCase):
    def refused(self, world, error, call):
        with self.assertRaises(errors.CalendarFault) as caught:
            call(world)
        self.assertIs(type(caught.exception), error, call.__code__.co_firstlineno)
        self.assertIsInstance(caught.exception, ValueError)

    def test_apart(self):
        before = shown(World(), set())
        for error, call in REFUSED:
            world = World()
            self.refused(world, error, call)
            self.assertEqual(shown(world, set()), before, call.__code__.co_firstlineno)

    def test_behind_others(self):
        world = World()
        before = shown(world, set())
        for seed in range(3):
            rows = list(REFUSED)
            random.Random(seed).shuffle(rows)
            for error, call in rows:
                self.refused(world, error, call)
            self.assertEqual(shown(world, set()), before)

    def test_all_kinds_are_met(self):
        own = sorted(name for name in vars(errors) if isinstance(getattr(errors, name), type))
        self.assertEqual(EXPECTED, own)
