package rules

import (
	"math/rand"
	"slices"
	"testing"
	"time"

	"bookings/api"
	"bookings/lines"
)

func dateOf(day int) time.Time {
	return time.Date(2024, 1, 1+day, 0, 0, 0, 0, time.UTC)
}

// isOf tells, by the library's calendar, whether a day is one of a rule that has no end.
func isOf(rule lines.Rule, day int) bool {
	first, date := dateOf(rule.From), dateOf(day)
	switch rule.Pace {
	case lines.Weekly:
		weekday := func(t time.Time) int { return (int(t.Weekday()) + 6) % 7 }
		weeks := (day - weekday(date) - rule.From + weekday(first)) / 7
		return day >= rule.From && weeks%rule.Every == 0 && rule.On[weekday(date)]
	case lines.Monthly:
		months := (date.Year()-first.Year())*12 + int(date.Month()) - int(first.Month())
		return day >= rule.From && months%rule.Every == 0 && date.Day() == first.Day()
	}
	return day >= rule.From && (day-rule.From)%rule.Every == 0
}

// daysOneByOne asks of each day of the horizon whether it is one of the rule.
func daysOneByOne(rule lines.Rule) ([]int, api.Errno) {
	var days []int
	for day := range api.Days {
		if isOf(rule, day) && (rule.Times > 0 && len(days) < rule.Times || rule.Times == 0 && day <= rule.Until) {
			days = append(days, day)
		}
	}
	if rule.Times > api.MaxSeries || len(days) > api.MaxSeries {
		return nil, api.ErrMany
	}
	if len(days) == 0 || len(days) < rule.Times || days[len(days)-1]*api.DayMinutes+rule.At+rule.Minutes > api.Horizon {
		return nil, api.ErrTime
	}
	return days, api.OK
}

func wantDays(t *testing.T, rule lines.Rule) api.Errno {
	t.Helper()
	got, err := Days(rule)
	want, wantErr := daysOneByOne(rule)
	if err != wantErr || !slices.Equal(got, want) {
		t.Fatalf("P10: Days(%+v) = %v, %d, want %v, %d", rule, got, err, want, wantErr)
	}
	return err
}

func anyRule(r *rand.Rand) lines.Rule {
	rule := lines.Rule{Pace: lines.Pace(1 + r.Intn(3)), Every: 1 + r.Intn(1+r.Intn(99)), From: r.Intn(api.Days), At: r.Intn(api.DayMinutes), Minutes: 1 + r.Intn(1+r.Intn(4*api.DayMinutes))}
	if rule.Pace == lines.Weekly {
		rule.On[r.Intn(7)] = true
		for i := range rule.On {
			rule.On[i] = rule.On[i] || r.Intn(3) == 0
		}
	}
	if r.Intn(2) == 0 {
		rule.Times = 1 + r.Intn(1+r.Intn(99))
	} else {
		rule.Until = min(api.Days-1, max(0, rule.From-5+r.Intn(1+r.Intn(500))))
	}
	return rule
}

// P6 and P10: the days of rules by chance, held against asking day by day.
func TestAnyRules(t *testing.T) {
	r := rand.New(rand.NewSource(9))
	var met [12]int
	for range 15000 {
		met[wantDays(t, anyRule(r))]++
	}
	for _, err := range []api.Errno{api.OK, api.ErrMany, api.ErrTime} {
		if met[err] < 1000 {
			t.Errorf("only %d rules are answered by %d", met[err], err)
		}
	}
}

// P10: rules from each day of the horizon on, up to its end and up to the MaxSeries-th day.
func TestRulesFromEachDay(t *testing.T) {
	for from := range api.Days {
		for pace := lines.Daily; pace <= lines.Monthly; pace++ {
			for _, every := range []int{1, 2, 5, 12, 99} {
				rule := lines.Rule{Pace: pace, Every: every, From: from, Minutes: 1}
				if pace == lines.Weekly {
					rule.On = lines.Weekdays{1: true, 6: true}
				}
				rule.Until = api.Days - 1
				wantDays(t, rule)
				rule.Until, rule.Times = 0, 1+from%api.MaxSeries
				wantDays(t, rule)
			}
		}
	}
}

// P6: each day's span, from the minute on, so many minutes long.
func TestSpans(t *testing.T) {
	got := Spans(lines.Rule{At: 90, Minutes: 2000}, []int{0, 1, 5})
	want := []api.Span{{From: 90, To: 2090}, {From: 1530, To: 3530}, {From: 7290, To: 9290}}
	if !slices.Equal(got, want) {
		t.Errorf("Spans = %v, want %v", got, want)
	}
}
