package bookings_test

import (
	"fmt"
	"strings"
	"testing"

	"bookings/api"
	"bookings/bookings"
)

func daysTold(days ...int) api.Reply { return api.Reply{N: len(days), Days: days} }

// daysInARow tells so many days, by a step.
func daysInARow(first, step, many int) api.Reply {
	var days []int
	for i := range many {
		days = append(days, first+i*step)
	}
	return daysTold(days...)
}

// P6 and P10: the days of rules, and which rules are refused; expand and series go by the same.
var ruleCases = []struct {
	rule string
	want api.Reply
}{
	// The document's examples.
	{"weekly 2 mo,we from 2024-01-03 at 00:00 for 10 times 4", daysTold(2, 14, 16, 28)},
	{"monthly 1 from 2024-01-31 at 10:00 for 60 until 2024-06-30", daysTold(30, 90, 151)},
	{"daily 1 from 2024-01-01 at 00:00 for 1 until 2024-02-10", refusal(api.ErrMany)},
	// The first day itself, and an end on a day of the rule, ahead of it and behind it.
	{"daily 1 from 2024-01-05 at 00:00 for 1 times 1", daysTold(4)},
	{"daily 1 from 2024-01-05 at 00:00 for 1 until 2024-01-05", daysTold(4)},
	{"daily 1 from 2024-01-05 at 00:00 for 1 until 2024-01-04", refusal(api.ErrTime)},
	{"daily 7 from 2024-01-05 at 00:00 for 1 until 2024-01-18", daysTold(4, 11)},
	{"daily 7 from 2024-01-05 at 00:00 for 1 until 2024-01-19", daysTold(4, 11, 18)},
	{"daily 99 from 2024-01-01 at 00:00 for 1 until 2025-12-28", daysInARow(0, 99, 8)},
	// Days of ON ahead of the first day; weeks n by n from that of the first day on.
	{"weekly 1 mo,tu,we from 2024-01-02 at 00:00 for 1 times 3", daysTold(1, 2, 7)},
	{"weekly 1 mo from 2024-01-02 at 00:00 for 1 times 2", daysTold(7, 14)},
	{"weekly 3 mo from 2024-01-02 at 00:00 for 1 times 2", daysTold(21, 42)},
	{"weekly 2 su from 2024-01-07 at 00:00 for 1 times 2", daysTold(6, 20)},
	{"weekly 2 su,mo from 2024-01-07 at 00:00 for 1 times 4", daysTold(6, 14, 20, 28)},
	{"weekly 2 mo from 2024-01-08 at 00:00 for 1 times 2", daysTold(7, 21)},
	{"weekly 1 mo from 2024-01-02 at 00:00 for 1 until 2024-01-07", refusal(api.ErrTime)},
	{"weekly 1 mo from 2024-01-02 at 00:00 for 1 until 2024-01-08", daysTold(7)},
	{"weekly 99 mo from 2024-01-02 at 00:00 for 1 until 2025-12-28", daysTold(693)},
	{"weekly 1 sa,su from 2025-12-26 at 00:00 for 1 until 2025-12-28", daysTold(726, 727)},
	{"weekly 1 fr from 2025-12-27 at 00:00 for 1 times 1", refusal(api.ErrTime)},
	{"weekly 1 fr from 2025-12-27 at 00:00 for 1 until 2025-12-28", refusal(api.ErrTime)},
	// A month that has not the day; months over the end of a year.
	{"monthly 1 from 2024-01-30 at 00:00 for 1 times 3", daysTold(29, 89, 120)},
	{"monthly 1 from 2024-01-29 at 00:00 for 1 times 3", daysTold(28, 59, 88)},
	{"monthly 1 from 2025-01-29 at 00:00 for 1 times 2", daysTold(394, 453)},
	{"monthly 1 from 2024-01-31 at 00:00 for 1 until 2024-02-29", daysTold(30)},
	{"monthly 5 from 2024-10-15 at 00:00 for 1 times 3", daysTold(288, 439, 592)},
	{"monthly 12 from 2024-02-29 at 00:00 for 1 until 2025-12-28", daysTold(59)},
	{"monthly 12 from 2024-02-29 at 00:00 for 1 times 2", refusal(api.ErrTime)},
	{"monthly 1 from 2024-12-31 at 00:00 for 1 times 2", daysTold(365, 396)},
	{"monthly 11 from 2024-01-01 at 00:00 for 1 times 3", daysTold(0, 335, 670)},
	{"monthly 23 from 2024-01-28 at 00:00 for 1 times 2", daysTold(27, 727)},
	{"monthly 23 from 2024-01-29 at 00:00 for 1 times 2", refusal(api.ErrTime)},
	{"monthly 99 from 2024-01-01 at 00:00 for 1 times 1", daysTold(0)},
	// MaxSeries days and one more.
	{"daily 1 from 2024-01-01 at 00:00 for 1 times 40", daysInARow(0, 1, 40)},
	{"daily 1 from 2024-01-01 at 00:00 for 1 times 41", refusal(api.ErrMany)},
	{"daily 1 from 2024-01-01 at 00:00 for 1 times 99", refusal(api.ErrMany)},
	{"daily 1 from 2024-01-01 at 00:00 for 1 until 2024-02-09", daysInARow(0, 1, 40)},
	{"daily 1 from 2024-01-01 at 00:00 for 1 until 2025-12-28", refusal(api.ErrMany)},
	{"weekly 1 we from 2024-01-03 at 00:00 for 1 until 2024-10-02", daysInARow(2, 7, 40)},
	{"weekly 1 we from 2024-01-03 at 00:00 for 1 until 2024-10-09", refusal(api.ErrMany)},
	{"weekly 1 we from 2024-01-03 at 00:00 for 1 times 40", daysInARow(2, 7, 40)},
	{"weekly 1 we from 2024-01-03 at 00:00 for 1 times 41", refusal(api.ErrMany)},
	{"monthly 1 from 2024-01-01 at 00:00 for 1 times 41", refusal(api.ErrMany)},
	// As many days as TIMES up to the last one, and one more.
	{"daily 1 from 2025-11-19 at 00:00 for 1 times 40", daysInARow(688, 1, 40)},
	{"daily 1 from 2025-11-20 at 00:00 for 1 times 40", refusal(api.ErrTime)},
	{"daily 1 from 2025-12-28 at 00:00 for 1 times 2", refusal(api.ErrTime)},
	{"monthly 1 from 2025-11-28 at 00:00 for 1 times 2", daysTold(697, 727)},
	{"monthly 1 from 2025-11-29 at 00:00 for 1 times 2", refusal(api.ErrTime)},
	// A span that ends at Horizon, and one behind it.
	{"daily 1 from 2025-12-28 at 00:00 for 1440 times 1", daysTold(727)},
	{"daily 1 from 2025-12-28 at 00:00 for 1441 times 1", refusal(api.ErrTime)},
	{"daily 1 from 2025-12-27 at 23:59 for 1 until 2025-12-28", daysTold(726, 727)},
	{"daily 1 from 2025-12-27 at 23:59 for 2 until 2025-12-28", refusal(api.ErrTime)},
	{"daily 1 from 2025-12-27 at 23:59 for 2 until 2025-12-27", daysTold(726)},
	{"monthly 1 from 2024-01-01 at 00:00 for 1048320 times 1", daysTold(0)},
	{"monthly 1 from 2024-01-01 at 00:01 for 1048320 times 1", refusal(api.ErrTime)},
	{"weekly 1 mo from 2024-01-01 at 00:00 for 1048320 times 2", refusal(api.ErrTime)},
	// ErrMany comes ahead of ErrTime.
	{"daily 1 from 2025-12-28 at 00:00 for 1 times 41", refusal(api.ErrMany)},
	{"daily 1 from 2025-11-18 at 00:00 for 9999 until 2025-12-28", refusal(api.ErrMany)},
	{"daily 1 from 2025-11-19 at 00:00 for 9999 until 2025-12-28", refusal(api.ErrTime)},
}

// P10: expand.
func TestExpand(t *testing.T) {
	d := bookings.New()
	for _, c := range ruleCases {
		wantReplies(t, d, say{"expand " + c.rule, c.want})
	}
	wantReplies(t, d, say{"clock", number(0)}, say{"thing a 1", number(0)}, say{"book a 1 0 1048320", number(1)})
}

// P6: a series has the days that expand tells, or is refused as the rule is, and then nothing is taken.
func TestSeriesOfRules(t *testing.T) {
	for _, c := range ruleCases {
		d := deskOf(t, "thing a 9")
		got := d.Do("series a 1 " + c.rule)
		list := d.Do("list a")
		if c.want.Err != api.OK {
			if !sameReply(got, c.want) || len(list.Entries) != 0 {
				t.Errorf("P6: series %q = %+v, want %+v; the list is then %+v", c.rule, got, c.want, list)
			}
			wantReplies(t, d, say{"peak a 0 1048320", number(0)}, say{"book a 9 0 1048320", number(1)})
			continue
		}
		if !sameReply(got, number(1)) || len(list.Entries) != 1 || len(list.Entries[0].Spans) != len(c.want.Days) {
			t.Fatalf("P6: series %q = %+v; the list is then %+v", c.rule, got, list)
		}
		for i, span := range list.Entries[0].Spans {
			if span.From/api.DayMinutes != c.want.Days[i] {
				t.Errorf("P6: series %q has the span %+v, want one of the day %d", c.rule, span, c.want.Days[i])
			}
		}
	}
}

// P4 and P5: rules that are none.
func TestNoRules(t *testing.T) {
	d := deskOf(t, "thing a 1")
	for _, c := range []struct {
		line string
		at   int
	}{
		{"expand", 1}, {"expand daily", 2}, {"expand daily 0 from 2024-01-01 at 00:00 for 1 times 1", 2},
		{"expand daily 100 from 2024-01-01 at 00:00 for 1 times 1", 2}, {"expand weekly 1 from 2024-01-01 at 00:00 for 1 times 1", 3},
		{"expand weekly 1 mo,mo from 2024-01-01 at 00:00 for 1 times 1", 3}, {"expand daily 1 from 2025-12-29 at 00:00 for 1 times 1", 4},
		{"expand monthly 1 from 2024-02-30 at 00:00 for 1 times 1", 4}, {"expand daily 1 from 2024-01-01 at 24:00 for 1 times 1", 6},
		{"expand daily 1 from 2024-01-01 at 00:00 for 0 times 1", 8}, {"expand daily 1 from 2024-01-01 at 00:00 for 1048321 times 1", 8},
		{"expand daily 1 from 2024-01-01 at 00:00 for 1 times 0", 10}, {"expand daily 1 from 2024-01-01 at 00:00 for 1 times 100", 10},
		{"expand daily 1 from 2024-01-01 at 00:00 for 1 until 2023-12-31", 10}, {"expand daily 1 from 2024-01-01 at 00:00 for 1", 9},
		{"series a 10 daily 1 from 2024-01-01 at 00:00 for 1 times 1", 2}, {"series x 1 yearly 1 from 2024-01-01 at 00:00 for 1 times 99", 3},
		{"series a 1 daily 1 from 2024-01-01 at 00:00 for 1 times 1 1", 13},
	} {
		wantReplies(t, d, say{c.line, api.Reply{Err: api.ErrWord, At: c.at}})
	}
	wantReplies(t, d, say{"list a", entries()})
}

func series(id int, thing string, units int, spans ...api.Span) api.Entry {
	return api.Entry{Id: id, Kind: api.Booked, Thing: thing, Units: units, Spans: spans}
}

// P6 and P10: a series is booked with all its spans: it is told once, where its first span between the times stands.
func TestSeriesInLists(t *testing.T) {
	d := deskOf(t, "thing a 3", "book a 1 1500 1510", "book a 1 0 3000")
	three := series(3, "a", 1, api.Span{From: 60, To: 120}, api.Span{From: 1500, To: 1560}, api.Span{From: 2940, To: 3000})
	one, two := booked(1, "a", 1, 1500, 1510), booked(2, "a", 1, 0, 3000)
	wantReplies(t, d,
		say{"series a 1 daily 1 from 2024-01-01 at 01:00 for 60 times 3", number(3)},
		say{"list a", entries(two, three, one)},
		say{"list a 120 1048320", entries(two, one, three)},
		say{"list a 119 1048320", entries(two, three, one)},
		say{"list a 120 1500", entries(two)},
		say{"list a 1509 2941", entries(two, one, three)},
		say{"list a 2999 3000", entries(two, three)},
		say{"list a 3000 1048320", entries()},
		say{"peak a 60 120", number(2)}, say{"peak a 1500 1510", number(3)}, say{"peak a 120 1500", number(1)},
		say{"find a 2 1 60 3000", number(120)},
		say{"find a 1 1 1500 3000", number(1510)},
		say{"find a 2 1381 0 9999", number(3000)},
		say{"confirm 3", refusal(api.ErrState)},
		say{"cancel 3", number(0)},
		say{"cancel 3", refusal(api.ErrId)},
		say{"list a", entries(two, one)},
		say{"peak a 60 120", number(1)}, say{"peak a 2940 3000", number(1)}, say{"peak a 1500 1510", number(2)},
		say{"book a 2 60 1500", number(4)},
	)
}

// P6 and P11: a series is booked whole or not at all, whichever of its days is busy.
func TestSeriesWholeOrNot(t *testing.T) {
	const line = "series a 1 daily 1 from 2024-01-01 at 01:00 for 60 times 5"
	for day := range 5 {
		for _, c := range []struct {
			from, to int
			want     api.Reply
		}{{59, 60, number(2)}, {60, 61, refusal(api.ErrBusy)}, {119, 120, refusal(api.ErrBusy)}, {120, 121, number(2)}} {
			from, to := day*api.DayMinutes+c.from, day*api.DayMinutes+c.to
			d := deskOf(t, "thing a 1", fmt.Sprint("book a 1 ", from, " ", to))
			wantReplies(t, d, say{line, c.want})
			if c.want.Err == api.OK {
				continue
			}
			wantReplies(t, d,
				say{"list a", entries(booked(1, "a", 1, from, to))},
				say{fmt.Sprint("find a 1 1048320 0 ", from), number(-1)},
				say{"cancel 1", number(0)},
				say{"peak a 0 1048320", number(0)},
				say{line, number(2)},
			)
		}
	}
}

// P5 and P6: spans of one series that overlap count so many times with one minute.
func TestSeriesThatOverlaps(t *testing.T) {
	d := deskOf(t, "thing a 4")
	wantReplies(t, d,
		say{"series a 2 daily 1 from 2024-01-01 at 00:00 for 2881 times 3", refusal(api.ErrBusy)},
		say{"peak a 0 1048320", number(0)},
		say{"series a 2 daily 1 from 2024-01-01 at 00:00 for 2880 times 3", number(1)},
		say{"peak a 0 1440", number(2)}, say{"peak a 1440 4320", number(4)}, say{"peak a 4320 5760", number(2)}, say{"peak a 5760 1048320", number(0)},
		say{"book a 3 0 1440", refusal(api.ErrBusy)},
		say{"book a 1 1440 1441", refusal(api.ErrBusy)},
		say{"find a 1 1 1440 1048320", number(4320)},
		say{"book a 2 0 1440", number(2)},
		say{"list a 1440 1441", entries(series(1, "a", 2, api.Span{From: 0, To: 2880}, api.Span{From: 1440, To: 4320}, api.Span{From: 2880, To: 5760}))},
		say{"cancel 1", number(0)},
		say{"peak a 0 1048320", number(2)},
		say{"cancel 2", number(0)},
		say{"series a 1 daily 1 from 2024-01-01 at 00:00 for 5761 times 5", refusal(api.ErrBusy)},
		say{"series a 1 daily 1 from 2024-01-01 at 00:00 for 5760 times 5", number(3)},
		say{"series a 1 daily 2 from 2024-01-01 at 00:00 for 1440 times 5", refusal(api.ErrBusy)},
		say{"series a 4 daily 2 from 2024-01-10 at 00:00 for 2880 times 5", number(4)},
	)
}

// P6 and P1: of several errors that apply to a series the one named first is told, and nothing changes.
func TestFirstErrorOfSeries(t *testing.T) {
	const many, none, busy = " daily 1 from 2025-12-28 at 00:00 for 9999 times 99", " daily 1 from 2025-12-28 at 00:00 for 9999 times 1", " daily 1 from 2024-01-01 at 00:00 for 60 times 2"
	d := deskOf(t, "thing a 2", "book a 2 10 20")
	first := []say{
		{"series x 9" + many, refusal(api.ErrName)}, {"series x 1" + busy, refusal(api.ErrName)},
		{"series a 3" + many, refusal(api.ErrUnits)}, {"series a 3" + none, refusal(api.ErrUnits)}, {"series a 3" + busy, refusal(api.ErrUnits)},
		{"series a 2" + many, refusal(api.ErrMany)}, {"series a 2" + none, refusal(api.ErrTime)},
	}
	for _, s := range append(first, say{"series a 2" + busy, refusal(api.ErrBusy)}) {
		wantReplies(t, d, s, say{"list a", entries(booked(1, "a", 2, 10, 20))}, say{"peak a 20 1048320", number(0)})
	}
	wantReplies(t, d, say{"series a 2 daily 1 from 2024-01-01 at 00:00 for 10 times 2", number(2)})
	for i := 3; i <= api.MaxId; i++ {
		wantReplies(t, d, say{"book a 1 9000 9001", number(i)}, say{fmt.Sprint("cancel ", i), number(0)})
	}
	wantReplies(t, d, first...)
	wantReplies(t, d,
		say{"series a 2" + busy, refusal(api.ErrFull)},
		say{"series a 2 daily 1 from 2024-02-01 at 00:00 for 10 times 2", refusal(api.ErrFull)},
		say{"expand" + busy, daysTold(0, 1)},
	)
}

// P6 and P10: as many series as there are numbers, each with as many spans as there may be.
func TestManySeries(t *testing.T) {
	d := deskOf(t, "thing a 1")
	for i := range api.MaxId {
		at := fmt.Sprintf("%02d:%02d", i*24/60, i*24%60)
		wantReplies(t, d, say{"series a 1 daily 18 from 2024-01-01 at " + at + " for 24 times 40", number(i + 1)})
	}
	list := d.Do("list a").Entries
	for i, e := range list {
		if e.Id != i+1 || len(e.Spans) != api.MaxSeries {
			t.Fatalf("P10: entry %d is %+v", i, e)
		}
	}
	if len(list) != api.MaxId {
		t.Errorf("P10: %d entries are told", len(list))
	}
	wantReplies(t, d,
		say{"find a 1 1 0 1048320", number(1440)},
		say{"find a 1 1 25920 1048320", number(27360)},
		say{"find a 1 24480 0 1048320", number(1440)},
		say{"find a 1 24481 0 1048320", number(703 * 1440)},
		say{"find a 1 36000 0 1048320", number(703 * 1440)},
		say{"find a 1 36001 0 1048320", number(-1)},
		say{"peak a 0 1048320", number(1)},
	)
}

// P2: writing into the days and spans that were told, spare room too, changes nothing else.
func TestDaysAndSpansAreTheCallers(t *testing.T) {
	const rule = "daily 1 from 2024-01-01 at 00:00 for 10 times 3"
	d, want := deskOf(t, "thing a 9", "series a 1 "+rule, "series a 2 "+rule), daysTold(0, 1, 2)
	first, other := d.Do("expand "+rule), d.Do("expand "+rule)
	for i := range first.Days[:cap(first.Days)] {
		first.Days[:cap(first.Days)][i] = 99
	}
	if !sameReply(other, want) {
		t.Errorf("P2: writing into one answer changes another to %+v", other)
	}
	spans := []api.Span{{From: 0, To: 10}, {From: 1440, To: 1450}, {From: 2880, To: 2890}}
	list, wantList := d.Do("list a"), entries(series(1, "a", 1, spans...), series(2, "a", 2, spans...))
	scribble(&list.Entries[0])
	if !sameEntry(list.Entries[1], wantList.Entries[1]) {
		t.Errorf("P2: writing into one entry changes the other to %+v", list.Entries[1])
	}
	scribble(&list.Entries[1])
	wantReplies(t, d,
		say{"expand " + rule, want},
		say{"list a", wantList},
		say{"cancel 1", number(0)},
		say{"cancel 2", number(0)},
		say{"peak a 0 1048320", number(0)},
	)
}

// P11: the plain form of a series and of expand does what the line does.
func TestPlainFormOfRules(t *testing.T) {
	for _, c := range ruleCases {
		line := "series  a 01 " + strings.Replace(c.rule, " for ", "  for 00", 1) + " "
		plain, err, _ := bookings.Plain(line)
		if len(line) > api.MaxLine || err == api.ErrWord {
			continue
		}
		a, b := deskOf(t, "thing a 2"), deskOf(t, "thing a 2")
		wantReplies(t, b, say{plain, a.Do(line)}, say{"list a", a.Do("list a")})
	}
}
