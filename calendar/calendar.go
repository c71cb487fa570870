// Package calendar: the dates of the Gregorian calendar and their numbers.
package calendar

import "bookings/api"

const (
	firstYear = 1
	lastYear  = 9999

	// The mean year of the calendar, as a fraction: so many days in so many years.
	cycleDays  = 146097
	cycleYears = 400

	// The numbers of the first and of the last date, by the rule of daysAhead: 2024-01-01 has the number 0.
	firstDay = -(2023*365 + 2023/4 - 2023/100 + 2023/400)
	lastDay  = firstDay + lastYear*365 + lastYear/4 - lastYear/100 + lastYear/400 - 1
)

// monthDays are the days of the months of a year that is no leap year.
var monthDays = [12]int{31, 28, 31, 30, 31, 30, 31, 31, 30, 31, 30, 31}

// Day tells a date's number; ErrTime, if there is no such date.
func Day(year int, month int, day int) (int, api.Errno) {
	if !exists(year, month, day) {
		return 0, api.ErrTime
	}
	number := firstDay + daysAhead(year) + day - 1
	for m := 1; m < month; m++ {
		number += daysOf(year, m)
	}
	return number, api.OK
}

// Date tells the year, month and day that have a number; ErrTime, if no date has it.
func Date(day int) (int, int, int, api.Errno) {
	if day < firstDay || day > lastDay {
		return 0, 0, 0, api.ErrTime
	}
	gone := day - firstDay
	year := yearOf(gone)
	rest := gone - daysAhead(year)
	month := 1
	for rest >= daysOf(year, month) {
		rest -= daysOf(year, month)
		month++
	}
	return year, month, rest + 1, api.OK
}

func exists(year int, month int, day int) bool {
	if year < firstYear || year > lastYear || month < 1 || month > 12 {
		return false
	}
	return day >= 1 && day <= daysOf(year, month)
}

func daysOf(year int, month int) int {
	if month == 2 && isLeap(year) {
		return 29
	}
	return monthDays[month-1]
}

func isLeap(year int) bool {
	return year%4 == 0 && (year%100 != 0 || year%400 == 0)
}

// daysAhead tells how many days of the calendar lie ahead of a year.
func daysAhead(year int) int {
	y := year - 1
	return y*365 + y/4 - y/100 + y/400
}

// yearOf tells the year in which a day lies, so many days behind the first date.
func yearOf(gone int) int {
	// By the mean year alone some days would lie in the year ahead of theirs, none in a
	// later one: the leap years run never a whole day ahead of their mean.
	year := gone*cycleYears/cycleDays + 1
	for daysAhead(year+1) <= gone {
		year++
	}
	return year
}
