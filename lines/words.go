package lines

import (
	"strings"

	"bookings/api"
	"bookings/calendar"
)

const (
	blank     = ' '
	numDigits = 7
)

// weekdays are the words of ON, in the order of the week.
var weekdays = [7]string{"mo", "tu", "we", "th", "fr", "sa", "su"}

// split gives the words of a text. Only byte 32 parts words: a tab is part of one.
func split(text string) []string {
	return strings.FieldsFunc(text, func(r rune) bool { return r == blank })
}

// readNum reads a NUM. Its bound on digits also keeps the number within an int.
func readNum(word string) (int, bool) {
	if len(word) == 0 || len(word) > numDigits {
		return 0, false
	}
	n := 0
	for i := 0; i < len(word); i++ {
		c := word[i]
		if c < '0' || c > '9' {
			return 0, false
		}
		n = n*10 + int(c-'0')
	}
	return n, true
}

func readName(word string) (string, bool) {
	if len(word) == 0 || len(word) > api.MaxName {
		return "", false
	}
	for i := 0; i < len(word); i++ {
		if word[i] < 'a' || word[i] > 'z' {
			return "", false
		}
	}
	// A copy, so that who keeps the name does not keep the whole line.
	return strings.Clone(word), true
}

// readDate reads a DATE: one of the days up to the horizon.
func readDate(word string) (int, bool) {
	day, ok := readAnyDate(word)
	if !ok || day < 0 || day >= api.Days {
		return 0, false
	}
	return day, true
}

// readAnyDate reads a date of the calendar, on either side of the horizon.
func readAnyDate(text string) (int, bool) {
	if len(text) != len("2024-01-01") || text[4] != '-' || text[7] != '-' {
		return 0, false
	}
	year, yearOk := readNum(text[:4])
	month, monthOk := readNum(text[5:7])
	day, dayOk := readNum(text[8:])
	if !yearOk || !monthOk || !dayOk {
		return 0, false
	}
	number, err := calendar.Day(year, month, day)
	return number, err == api.OK
}

func readMinute(word string) (int, bool) {
	if len(word) != len("00:00") || word[2] != ':' {
		return 0, false
	}
	hours, hoursOk := readNum(word[:2])
	minutes, minutesOk := readNum(word[3:])
	if !hoursOk || !minutesOk || hours > 23 || minutes > 59 {
		return 0, false
	}
	return hours*60 + minutes, true
}

// readTime reads a TIME in either of its forms. Both are held against the horizon
// as minutes, so the one time of the day behind the last needs no rule of its own.
func readTime(word string) (int, bool) {
	time, ok := readNum(word)
	if !ok {
		time, ok = readDayAndMinute(word)
	}
	if !ok || time < 0 || time > api.Horizon {
		return 0, false
	}
	return time, true
}

func readDayAndMinute(word string) (int, bool) {
	date, minute, found := strings.Cut(word, "/")
	if !found {
		return 0, false
	}
	day, dayOk := readAnyDate(date)
	minutes, minutesOk := readMinute(minute)
	if !dayOk || !minutesOk {
		return 0, false
	}
	return day*api.DayMinutes + minutes, true
}

func readOn(word string) (Weekdays, bool) {
	var on Weekdays
	for _, name := range strings.Split(word, ",") {
		day, ok := readWeekday(name)
		if !ok || on[day] {
			return Weekdays{}, false
		}
		on[day] = true
	}
	return on, true
}

func readWeekday(name string) (int, bool) {
	for day := range len(weekdays) {
		if weekdays[day] == name {
			return day, true
		}
	}
	return 0, false
}
