package calendar

import (
	"testing"
	"time"

	"bookings/api"
)

// P3: every date of the calendar, held against the library's calendar.
func TestEveryDate(t *testing.T) {
	when := time.Date(1, 1, 1, 0, 0, 0, 0, time.UTC)
	for number := -738885; number <= 2913173; number++ {
		y, m, d := when.Date()
		if n, err := Day(y, int(m), d); n != number || err != api.OK {
			t.Fatalf("Day(%d, %d, %d) = %d, %d, want %d", y, m, d, n, err, number)
		}
		if a, b, c, err := Date(number); a != y || b != int(m) || c != d || err != api.OK {
			t.Fatalf("Date(%d) = %d, %d, %d, %d, want %d, %d, %d", number, a, b, c, err, y, m, d)
		}
		when = when.AddDate(0, 0, 1)
	}
	if y := when.Year(); y != 10000 {
		t.Fatalf("the walk ended in the year %d", y)
	}
}

// P3: of every year, months and days that are near to being some.
func TestNoSuchDate(t *testing.T) {
	for year := -1; year <= 10001; year++ {
		for month := -1; month <= 14; month++ {
			for _, day := range []int{-1, 0, 1, 28, 29, 30, 31, 32} {
				when := time.Date(year, time.Month(month), day, 0, 0, 0, 0, time.UTC)
				y, m, d := when.Date()
				is := y == year && int(m) == month && d == day && year >= 1 && year <= 9999
				n, err := Day(year, month, day)
				if is && err != api.OK || !is && (err != api.ErrTime || n != 0) {
					t.Fatalf("Day(%d, %d, %d) = %d, %d", year, month, day, n, err)
				}
			}
		}
	}
}
