package bookings_test

import (
	"math"
	"testing"

	"bookings/api"
	"bookings/bookings"
)

// P3: ordinary dates, the first and last year, leap years; both ways.
func TestDayAndDate(t *testing.T) {
	for _, c := range []struct{ year, month, day, number int }{
		{2024, 1, 1, 0}, {2024, 1, 31, 30}, {2024, 2, 1, 31}, {2024, 2, 29, 59}, {2024, 3, 1, 60},
		{2024, 12, 31, 365}, {2025, 1, 1, 366}, {2025, 2, 28, 424}, {2025, 3, 1, 425}, {2025, 12, 28, 727}, {2025, 12, 29, 728},
		{2023, 12, 31, -1}, {2023, 3, 1, -306}, {2023, 2, 28, -307}, {2023, 1, 1, -365},
		{2000, 2, 29, -8707}, {2000, 3, 1, -8706}, {1900, 2, 28, -45232}, {1900, 3, 1, -45231},
		{1, 1, 1, -738885}, {1, 12, 31, -738521}, {2, 1, 1, -738520}, {4, 2, 29, -737731},
		{9999, 1, 1, 2912809}, {9999, 12, 31, 2913173},
	} {
		if n, err := bookings.Day(c.year, c.month, c.day); n != c.number || err != api.OK {
			t.Errorf("P3: Day(%d, %d, %d) = %d, %d, want %d", c.year, c.month, c.day, n, err, c.number)
		}
		if y, m, d, err := bookings.Date(c.number); y != c.year || m != c.month || d != c.day || err != api.OK {
			t.Errorf("P3: Date(%d) = %d, %d, %d, %d, want %d, %d, %d", c.number, y, m, d, err, c.year, c.month, c.day)
		}
	}
}

// P3 and P1: no such date, up to the ends of int.
func TestDayOfNoDate(t *testing.T) {
	for _, c := range [][3]int{
		{2023, 2, 29}, {2025, 2, 29}, {2100, 2, 29}, {1900, 2, 29}, {1, 2, 29}, {2024, 2, 30}, {2000, 2, 30},
		{2024, 1, 32}, {2024, 3, 32}, {2024, 4, 31}, {2024, 5, 32}, {2024, 6, 31}, {2024, 7, 32},
		{2024, 8, 32}, {2024, 9, 31}, {2024, 10, 32}, {2024, 11, 31}, {2024, 12, 32},
		{2024, 1, 0}, {2024, 1, -1}, {2024, 0, 1}, {2024, -1, 1}, {2024, 13, 1}, {0, 1, 1}, {0, 12, 31}, {-1, 1, 1}, {-4, 2, 29}, {10000, 1, 1},
		{math.MaxInt, 1, 1}, {math.MinInt, 1, 1}, {2024, math.MaxInt, 1}, {2024, math.MinInt, 1}, {2024, 1, math.MaxInt}, {2024, 1, math.MinInt},
		{math.MinInt, math.MinInt, math.MinInt}, {math.MaxInt, math.MaxInt, math.MaxInt},
	} {
		if n, err := bookings.Day(c[0], c[1], c[2]); n != 0 || err != api.ErrTime {
			t.Errorf("P3: Day(%d, %d, %d) = %d, %d, want 0, ErrTime", c[0], c[1], c[2], n, err)
		}
	}
}

// P3 and P1: no date has the number.
func TestDateOfNoDay(t *testing.T) {
	for _, n := range []int{-738886, 2913174, -738885 - 366, 2913173 + 366, math.MaxInt32, math.MinInt32, math.MaxInt, math.MinInt} {
		if y, m, d, err := bookings.Date(n); y != 0 || m != 0 || d != 0 || err != api.ErrTime {
			t.Errorf("P3: Date(%d) = %d, %d, %d, %d, want 0, 0, 0, ErrTime", n, y, m, d, err)
		}
	}
}
