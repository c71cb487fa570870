// Package rules: the days of a rule, and its spans.
package rules

import (
	"iter"

	"bookings/api"
	"bookings/calendar"
	"bookings/lines"
)

const (
	weekDays   = 7
	yearMonths = 12
)

// Days tells the days of a rule in order. ErrMany, if they are too many; ErrTime, if there are
// none or too few, or if a span of the rule ends behind the horizon.
func Days(rule lines.Rule) ([]int, api.Errno) {
	if rule.Times > api.MaxSeries {
		return nil, api.ErrMany
	}
	days := firstDays(rule)
	switch {
	case len(days) > api.MaxSeries:
		return nil, api.ErrMany
	case len(days) == 0 || len(days) < rule.Times:
		return nil, api.ErrTime
	case spanOf(rule, days[len(days)-1]).To > api.Horizon:
		return nil, api.ErrTime
	}
	return days, api.OK
}

// Spans gives the spans of a rule that has these days. They may overlap, but each begins at a time of its own.
func Spans(rule lines.Rule, days []int) []api.Span {
	spans := make([]api.Span, 0, len(days))
	for _, day := range days {
		spans = append(spans, spanOf(rule, day))
	}
	return spans
}

func spanOf(rule lines.Rule, day int) api.Span {
	from := day*api.DayMinutes + rule.At
	return api.Span{From: from, To: from + rule.Minutes}
}

// firstDays gives the days of a rule up to its end, but no more than show that they are too many.
func firstDays(rule lines.Rule) []int {
	last, most := rule.Until, api.MaxSeries+1
	if rule.Times > 0 {
		last, most = api.Days-1, rule.Times
	}
	var days []int
	for day := range endless(rule) {
		if day > last || len(days) == most {
			break
		}
		days = append(days, day)
	}
	return days
}

// endless goes, in order, through the days that a rule would have without its end, up to the horizon.
func endless(rule lines.Rule) iter.Seq[int] {
	switch rule.Pace {
	case lines.Weekly:
		return weekly(rule)
	case lines.Monthly:
		return monthly(rule)
	}
	return daily(rule)
}

func daily(rule lines.Rule) iter.Seq[int] {
	return func(yield func(int) bool) {
		for day := rule.From; day < api.Days; day += rule.Every {
			if !yield(day) {
				return
			}
		}
	}
}

func weekly(rule lines.Rule) iter.Seq[int] {
	return func(yield func(int) bool) {
		// The day 0 is a Monday, so the rest by a week is the day of the week.
		monday := rule.From - rule.From%weekDays
		for ; monday < api.Days; monday += rule.Every * weekDays {
			for day := max(monday, rule.From); day < monday+weekDays; day++ {
				if rule.On[day-monday] && !yield(day) {
					return
				}
			}
		}
	}
}

func monthly(rule lines.Rule) iter.Seq[int] {
	return func(yield func(int) bool) {
		year, month, date, _ := calendar.Date(rule.From)
		for isReached(year, month) {
			// A month that has not the date has no day of the rule.
			day, err := calendar.Day(year, month, date)
			if err == api.OK && !yield(day) {
				return
			}
			year, month = later(year, month, rule.Every)
		}
	}
}

// isReached tells whether a month begins within the horizon.
func isReached(year int, month int) bool {
	first, err := calendar.Day(year, month, 1)
	return err == api.OK && first < api.Days
}

func later(year int, month int, months int) (int, int) {
	gone := month - 1 + months
	return year + gone/yearMonths, gone%yearMonths + 1
}
