// Package bookings: a desk that books things by lines of text: see DOC.md.
package bookings

import (
	"bookings/api"
	"bookings/calendar"
	"bookings/desk"
	"bookings/lines"
)

// Desk is some things, with what is booked, held and waits.
type Desk struct {
	kept *desk.Desk
}

// Day tells a date's number (P3).
func Day(year int, month int, day int) (int, api.Errno) {
	return calendar.Day(year, month, day)
}

// Date tells a day's date (P3).
func Date(day int) (int, int, int, api.Errno) {
	return calendar.Date(day)
}

// Plain tells a line in its plain form (P4).
func Plain(line string) (string, api.Errno, int) {
	read, err, at := lines.Read(line)
	if err != api.OK {
		return "", err, at
	}
	return lines.Plain(read), api.OK, 0
}

// New makes a desk without things (P5).
func New() *Desk {
	return &Desk{kept: desk.New()}
}

// Do does what a line says (P5 to P10).
func (d *Desk) Do(line string) api.Reply {
	read, err, at := lines.Read(line)
	if err != api.OK {
		return api.Reply{Err: err, At: at}
	}
	return d.kept.Do(read)
}
