// Package lines: the lines that a desk understands, read from text and told in their plain form.
package lines

import "bookings/api"

// Line is a line that was read: its type is its kind.
type Line interface {
	// plainWords are the words of the plain form.
	plainWords() []string
}

// Claim is what book, hold and wait ask for: units of a thing over a span.
// The span is as it was written: its end may lie ahead of its beginning.
type Claim struct {
	Name  string
	Units int
	Span  api.Span
}

// Thing is the line that names a thing and its units.
type Thing struct {
	Name  string
	Units int
}

// Book is the line that books at once.
type Book struct {
	Claim
}

// Hold is the line that holds for some minutes.
type Hold struct {
	Claim
	Minutes int
}

// Wait is the line that waits for some minutes.
type Wait struct {
	Claim
	Minutes int
}

// Series is the line that books the days of a rule.
type Series struct {
	Name  string
	Units int
	Rule  Rule
}

// Confirm is the line that books what is held.
type Confirm struct {
	Id int
}

// Cancel is the line that lets go.
type Cancel struct {
	Id int
}

// List is the line that asks what is booked and held, within a span if Within holds.
type List struct {
	Name   string
	Within bool
	Span   api.Span
}

// Waiting is the line that asks who waits.
type Waiting struct{}

// Peak is the line that asks how many units are taken at most.
type Peak struct {
	Name string
	Span api.Span
}

// Find is the line that asks for the first time with room.
type Find struct {
	Name    string
	Units   int
	Minutes int
	Span    api.Span
}

// Expand is the line that asks for the days of a rule.
type Expand struct {
	Rule Rule
}

// Tick is the line that lets time go by.
type Tick struct {
	Minutes int
}

// Clock is the line that asks for the time.
type Clock struct{}

// Pace is by what a rule goes on: days, weeks or months.
type Pace int

const (
	Daily Pace = iota + 1
	Weekly
	Monthly
)

// Weekdays tells of each day of the week, from Monday on, whether it is meant.
type Weekdays [7]bool

// Rule is a rule of days with a span on each.
type Rule struct {
	Pace    Pace
	Every   int
	On      Weekdays // of a weekly rule alone
	From    int      // the number of the first date
	At      int      // the minute of the day
	Minutes int
	Times   int // 0, if the rule has an Until
	Until   int // the number of the last date, if Times is 0
}
