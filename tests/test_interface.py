"""The interface: each listed name stands, with its arguments and fields, in the file under which it is listed."""

import ast
import pathlib
import unittest

PACKAGE = pathlib.Path(__file__).resolve().parent.parent / "recurwright"

INTERFACE = {
    "errors": """
        class CalendarFault(ValueError)
        class BadCalendar(CalendarFault)
        class BadDay(CalendarFault)
        class BadTime(CalendarFault)
        class BadRule(CalendarFault)
        class BadZone(CalendarFault)
        class BadSize(CalendarFault)
        class BadPaper(CalendarFault)
        class BadText(CalendarFault)
        class BadStore(CalendarFault)
        class NoDay(CalendarFault)
        class NoSuch(CalendarFault)
    """,
    "calendars": """
        class Calendar()
        Calendar.__init__(months, long_month, cycle, long_years, week, first_weekday=0)
        Calendar.cycle_days()
        Calendar.is_long(year)
        Calendar.year_days(year)
        Calendar.month_days(year, month)
        Calendar.first_of(year)
        Calendar.number_of(year, month, day)
        Calendar.year_of(number)
        Calendar.date(number)
        Calendar.weekday_of(number)
        Calendar.shown()
        Calendar: months, long_month, cycle, long_years, week, first_weekday, starts
        common()
        kinds_of_years(calendar)
    """,
    "days": """
        class Day()
        Day.__init__(calendar, number)
        Day.left_in_month()
        Day.left_in_year()
        Day.month_number()
        Day.week_number()
        Day.nth()
        Day.nth_back()
        Day.shown()
        Day: calendar, number, year, month, day, weekday, year_day
        day_of(calendar, year, month, day)
        moved(day, many)
        months_on(day, many, held=True)
        years_on(day, many, held=True)
        nth_weekday(calendar, year, month, weekday, nth)
        between(one, other)
        age(born, now)
        quarter(day, many)
    """,
    "weeks": """
        middle(calendar)
        week_start(calendar, number)
        week_of(calendar, number)
        first_week(calendar, year)
        weeks_in(calendar, year)
        from_week(calendar, year, week, weekday)
        long_week_years(calendar, first, last)
        weekdays_between(calendar, first, last, weekday)
    """,
    "rules": """
        PARTS = ('weekday', 'month', 'day', 'back', 'year day', 'year back', 'nth', 'nth back')
        STEPS = ('days', 'weeks', 'months', 'years')
        class Is()
        Is.__init__(part, numbers)
        Is.has(day)
        Is.steps()
        Is.reach(calendar)
        Is.shown()
        Is: part, numbers
        part_of(day, part)
        class Every()
        Every.__init__(unit, count, start)
        Every.has(day)
        Every.steps()
        Every.reach(calendar)
        Every.shown()
        Every: unit, count, start
        unit_of(day, unit)
        class All()
        All.__init__(rules)
        All.has(day)
        All.steps()
        All.reach(calendar)
        All.shown()
        All: rules
        class Any()
        Any.__init__(rules)
        Any.has(day)
        Any.steps()
        Any.reach(calendar)
        Any.shown()
        Any: rules
        class Not()
        Not.__init__(rule)
        Not.has(day)
        Not.steps()
        Not.reach(calendar)
        Not.shown()
        Not: rule
        class Pick()
        Pick.__init__(rule, unit, places)
        Pick.has(day)
        Pick.steps()
        Pick.reach(calendar)
        Pick.shown()
        Pick: rule, unit, places
        class Moved()
        Moved.__init__(rule, many)
        Moved.has(day)
        Moved.steps()
        Moved.reach(calendar)
        Moved.shown()
        Moved: rule, many
        counted(rule, day, unit)
        day_at(day, number)
        always()
        never()
    """,
    "counts": """
        MOST = 6000
        shared(one, other)
        period_of(calendar, rule)
        away_of(calendar, rule)
        sign_of(calendar, rule, year)
        class Counter()
        Counter.__init__(calendar, rule)
        Counter.places_in(year)
        Counter.in_period()
        Counter.ahead_of_year(year)
        Counter.ahead(number)
        Counter.between(first, last)
        Counter.at(count)
        Counter.nth(number, many)
        Counter.next(number)
        Counter.last_ahead(number)
        Counter.days_between(first, last)
        Counter.papers()
        Counter: calendar, rule, period, kinds, signs, sums
        check_papers(calendar, rule, papers)
    """,
    "clashes": """
        both_rules(calendar, one, other)
        never_meet(calendar, one, other)
        first_meeting(calendar, one, other, number)
        same_days(calendar, one, other)
        within(calendar, one, other)
        first_unlike(calendar, one, other, number)
        covers_all(calendar, rules)
        longest_gap(counter)
        gaps(counter)
        pairs(calendar, rules)
    """,
    "workdays": """
        WAYS = ('behind', 'ahead', 'nearest', 'within month')
        class Works()
        Works.__init__(calendar, worked, off)
        Works.is_worked(number)
        Works.add(number, many)
        Works.between(first, last)
        Works.to_worked(number, way)
        Works.last_of_month(year, month)
        Works.nth_of_month(year, month, nth)
        Works: calendar, rule, counter
        paid(works, rule_counter, first, last, way)
        doubled(days)
    """,
    "clocks": """
        DAY = 86400
        FIGURES = '0123456789'
        check_time(seconds)
        time_of(hours, minutes, seconds=0)
        parts_of(seconds)
        two(number)
        told_time(seconds)
        read_time(text)
        told_length(seconds)
        read_length(text)
        rounded(seconds, step)
    """,
    "zones": """
        class Zone()
        Zone.__init__(first, changes=())
        Zone.ahead(when)
        Zone.local(when)
        Zone.times_of(local)
        Zone.time_of(local, later=False)
        Zone.gaps()
        Zone.folds()
        Zone.merged()
        Zone.shown()
        Zone: first, changes
        same_from(one, other, when)
        day_length(zone, number)
    """,
    "seasons": """
        class Turn()
        Turn.__init__(rule, time, far)
        Turn: rule, time, far
        turn_days(calendar, turn, first, last)
        zone_of(calendar, start, turns, first, last)
        summer_days(calendar, zone, year)
        changes_in(calendar, zone, year)
    """,
    "spells": """
        class Spell()
        Spell.__init__(months=0, days=0, seconds=0)
        Spell.shown()
        Spell.is_bare()
        Spell: months, days, seconds
        plus(one, other)
        times(spell, many)
        on(calendar, local, spell)
        row_of(calendar, local, spell, many)
        told_spell(calendar, spell)
        read_spell(calendar, text)
        most_between(calendar, first, last)
    """,
    "spans": """
        check_span(span)
        together(spans)
        both(one, other)
        without(one, other)
        free(spans, first, last)
        total(spans)
        first_free(spans, first, length, step=1)
        deepest(spans)
        covers(spans, span)
        clashing(spans)
    """,
    "plans": """
        class Plan()
        Plan.__init__(calendar, rule, time, length, zone, first, last=None)
        Plan.ruled(number)
        Plan.has(number)
        Plan.drop(number)
        Plan.add(number)
        Plan.move(number, time)
        Plan.days_between(low, high)
        Plan.span(number)
        Plan.spans(low, high)
        Plan.next_day(number)
        Plan.how_many()
        Plan.shown()
        Plan: counter, rule, time, length, zone, first, last, dropped, added, moved
        all_spans(plans, low, high)
        all_clashes(plans, low, high)
    """,
    "books": """
        class Book()
        Book.__init__()
        Book.put(name, plan)
        Book.take(name)
        Book.here(name)
        Book.names()
        Book.in_order()
        Book.on_day(number)
        Book.between(low, high)
        Book.next(number)
        Book.next_of(plan, number)
        Book.clashes(low, high)
        Book.busy(low, high)
        Book.room(low, high, start, length, step)
        Book: plans
        common_room(books, low, high, start, length, step)
        merged(base, one, other)
    """,
    "words": """
        FIGURES = '0123456789'
        told(rule)
        words_of(row)
        numbers_told(numbers)
        class Reader()
        Reader.__init__(text)
        Reader.here()
        Reader.take(sign=None)
        Reader.take_number()
        Reader.take_numbers()
        Reader.take_rule()
        Reader.inner()
        Reader.row()
        Reader: signs, place
        whole(word)
        read(text)
    """,
    "terms": """
        business_year(calendar, number, first_month)
        part_of_business(calendar, number, first_month, many)
        start_of_part(calendar, year, first_month, part, many)
        weeks_pattern(calendar, start, pattern, number)
        even_months(calendar, first, last, size)
        share_of_years(calendar, first, last)
        due_days(calendar, first, months, many)
        spread(amount, many)
    """,
    "meets": """
        cost_of(calendar, wishes, number)
        best_day(calendar, wishes, first, last)
        soonest_for_all(calendar, rules, number, many)
        turns(people, counter, number, many)
        turn_on(people, counter, number)
        shifts(needs, people, most)
        check_shifts(needs, rows, people, most)
    """,
    "rings": """
        MOST = 5000
        class Ring()
        Ring.__init__(period, places)
        Ring.has(number)
        Ring.ahead(number)
        Ring.at(count)
        Ring.next(number)
        Ring.shown()
        Ring: period, places
        widened(ring, times)
        least(ring)
        paired(one, other)
        either(one, other)
        common_to(one, other)
        opposite(ring)
        shifted(ring, many)
        same(one, other)
        meeting(first, period, second, other)
        many_between(ring, first, last)
    """,
    "hours": """
        class Hours()
        Hours.__init__(week, rows, others=None)
        Hours.of_day(day)
        Hours.is_open(time)
        Hours.in_week()
        Hours.in_day(day)
        Hours.ahead(time)
        Hours.in_row(weekday)
        Hours.between(first, last)
        Hours.next_open(time)
        Hours.next_shut(time)
        Hours.add(time, much)
        Hours: week, rows, others
        day_spans(spans)
    """,
    "crons": """
        FIGURES = '0123456789'
        numbers_of(word, low, high)
        number_of(word)
        class Cron()
        Cron.__init__(calendar, text)
        Cron.of_day()
        Cron.has(time)
        Cron.ahead(time)
        Cron.at(count)
        Cron.next(time)
        Cron.last_ahead(time)
        Cron.between(first, last)
        Cron: minutes, hours, rule, counter
        first_of_all(crons, time)
        told_numbers(numbers, low, high)
    """,
    "trips": """
        class Ride()
        Ride.__init__(calendar, rule, start, time, end, length)
        Ride.next(time)
        Ride.last_leave(time)
        Ride: counter, start, time, end, length
        earliest(rides, start, time, change)
        way(rides, start, end, time, change)
        check_way(rides, start, end, time, change, steps, table)
        latest(rides, end, time, change)
    """,
    "eras": """
        class Pair()
        Pair.__init__(one, other, offset)
        Pair.across(year, month, day)
        Pair.back(year, month, day)
        Pair.both_begin(number, unit, most)
        Pair: one, other, offset
        class Reigns()
        Reigns.__init__(rows)
        Reigns.reign(number)
        Reigns.told(calendar, number)
        Reigns.day_number(calendar, name, year, month, day)
        Reigns.years_of(calendar, place)
        Reigns: rows
    """,
    "alarms": """
        class Alarms()
        Alarms.__init__()
        Alarms.put(name, plan, ahead)
        Alarms.take(name)
        Alarms.due(first, last)
        Alarms.tell(time)
        Alarms.put_off(row, much)
        Alarms.waiting()
        Alarms: rows, told_to, later
    """,
    "histories": """
        class History()
        History.__init__(rows=None)
        History.put(name, row)
        History.take(name)
        History.do(edit)
        History.let(name, row)
        History.undo()
        History.redo()
        History.at(count)
        History.between(first, last)
        History.names_ever()
        History: rows, done, undone
        unlike(one, other)
        patched(rows, changes)
    """,
    "moons": """
        PART = 10000
        class Moons()
        Moons.__init__(month, year, lead=0)
        Moons.first_day(moon)
        Moons.moon_of(number)
        Moons.days_in(moon)
        Moons.first_moon(year)
        Moons.moons_in(year)
        Moons.year_of(moon)
        Moons.date(number)
        Moons.number_of(year, month, day)
        Moons.most_moons(first, last)
        Moons: month, year, lead
        lengths(moons, first, last)
        is_even(moons, first, many)
    """,
    "sheets": """
        month_rows(calendar, year, month)
        told_month(calendar, year, month, marked=())
        read_month(calendar, rows)
        marks(calendar, rule, year, month)
        year_sheet(calendar, year, rule)
        same_sheet(calendar, year, other)
        next_same(calendar, year)
        day_by_sheet(calendar, year, month, week, weekday)
    """,
    "rates": """
        class Rates()
        Rates.__init__(calendar, lines, other)
        Rates.line(number)
        Rates.rate(time)
        Rates.day_cost(place)
        Rates.part_cost(number, seconds)
        Rates.ahead(time)
        Rates.cost(first, last)
        Rates.mean()
        Rates.until(first, much)
        Rates: calendar, lines, other, counters
        cheapest(rates, first, last, length, step)
    """,
    "records": """
        class Records()
        Records.__init__()
        Records.tell(when, name, value, first, last=None)
        Records.at(name, day, when)
        Records.spans(name, when)
        Records.names(when)
        Records.changed(name, first, second)
        Records.first_known(name, day, value)
        Records: rows
        value_in(spans, day)
        meets_all(records, names, when)
    """,
    "desks": """
        FIGURES = '0123456789'
        BASE = 9973
        WIDE = 2000003
        read_day(calendar, word)
        told_day(calendar, number)
        figure_of(text)
        class Desk()
        Desk.__init__(calendar=None)
        Desk.say(line)
        Desk.do(line)
        Desk.answer(words)
        Desk.written(words)
        Desk: calendar, zone, book, text, many
        lines_of(text)
        done_again(text, calendar=None)
    """,
}


def plain(function):
    """A function's name and arguments as the interface writes them, but for a method's own object."""
    text = ast.unparse(function.args)
    if text == "self" or text.startswith("self, "):
        text = text[len("self, "):]
    return f"{function.name}({text})"


def of_class(node):
    """The rows that the interface may list of a class: its head, its methods and its fields."""
    rows = {f"class {node.name}({', '.join(ast.unparse(base) for base in node.bases)})"}
    for method in [part for part in node.body if isinstance(part, ast.FunctionDef)]:
        rows.add(f"{node.name}.{plain(method)}")
    return rows


def fields_of(node):
    """The attributes that a class sets when an object is made."""
    makers = [part for part in node.body if isinstance(part, ast.FunctionDef) and part.name == "__init__"]
    return {part.attr for maker in makers for part in ast.walk(maker)
            if isinstance(part, ast.Attribute) and isinstance(part.ctx, ast.Store)}


class InterfaceTest(unittest.TestCase):
    def test_all_that_is_listed_stands(self):
        for name, text in INTERFACE.items():
            tree = ast.parse((PACKAGE / f"{name}.py").read_text())
            rows, fields = set(), {}
            for node in tree.body:
                if isinstance(node, ast.ClassDef):
                    rows |= of_class(node)
                    fields[node.name] = fields_of(node)
                elif isinstance(node, ast.FunctionDef):
                    rows.add(plain(node))
                elif isinstance(node, ast.Assign):
                    rows.add(ast.unparse(node))
            for row in [row.strip() for row in text.strip().split("\n")]:
                if ": " in row:
                    owner, listed = row.split(": ")
                    self.assertEqual(set(listed.split(", ")) - fields[owner], set(), (name, owner))
                else:
                    self.assertIn(row, rows, name)
