package lines

import "bookings/api"

const (
	maxEvery = 99
	maxTimes = 99
)

// Read reads a line. If it is none, it tells the error and at which word.
func Read(text string) (Line, api.Errno, int) {
	if len(text) > api.MaxLine {
		return nil, api.ErrLong, 0
	}
	r := &reader{words: split(text)}
	line := r.line()
	if r.wrong || r.more() {
		return nil, api.ErrWord, r.next
	}
	return line, api.OK, 0
}

// reader takes the words of a line one by one. Behind the first word that is wrong or
// missing it takes none, so that next stays the number of that word.
type reader struct {
	words []string
	next  int
	wrong bool
}

func (r *reader) more() bool {
	return !r.wrong && r.next < len(r.words)
}

// take takes the next word by the function that reads words of its kind.
func take[T any](r *reader, read func(string) (T, bool)) T {
	var none T
	if !r.more() {
		r.wrong = true
		return none
	}
	value, ok := read(r.words[r.next])
	if !ok {
		r.wrong = true
		return none
	}
	r.next++
	return value
}

// is takes the next word if it is this one.
func (r *reader) is(word string) bool {
	if !r.more() || r.words[r.next] != word {
		return false
	}
	r.next++
	return true
}

func (r *reader) must(word string) {
	if !r.is(word) {
		r.wrong = true
	}
}

// line leans on Go's order of calls, from left to right within a literal:
// the fields stand in the order of the words.
func (r *reader) line() Line {
	switch {
	case r.is("thing"):
		return Thing{Name: r.name(), Units: r.units()}
	case r.is("book"):
		return Book{Claim: r.claim()}
	case r.is("hold"):
		return Hold{Claim: r.claim(), Minutes: r.minutes()}
	case r.is("wait"):
		return Wait{Claim: r.claim(), Minutes: r.minutes()}
	case r.is("series"):
		return Series{Name: r.name(), Units: r.units(), Rule: r.rule()}
	case r.is("confirm"):
		return Confirm{Id: r.id()}
	case r.is("cancel"):
		return Cancel{Id: r.id()}
	case r.is("list"):
		return r.list()
	case r.is("waiting"):
		return Waiting{}
	case r.is("peak"):
		return Peak{Name: r.name(), Span: r.span()}
	case r.is("find"):
		return Find{Name: r.name(), Units: r.units(), Minutes: r.minutes(), Span: r.span()}
	case r.is("expand"):
		return Expand{Rule: r.rule()}
	case r.is("tick"):
		return Tick{Minutes: r.minutes()}
	case r.is("clock"):
		return Clock{}
	}
	r.wrong = true
	return nil
}

func (r *reader) claim() Claim {
	return Claim{Name: r.name(), Units: r.units(), Span: r.span()}
}

func (r *reader) list() List {
	list := List{Name: r.name()}
	if r.more() {
		list.Within = true
		list.Span = r.span()
	}
	return list
}

func (r *reader) rule() Rule {
	var rule Rule
	r.pace(&rule)
	r.must("from")
	rule.From = take(r, readDate)
	r.must("at")
	rule.At = take(r, readMinute)
	r.must("for")
	rule.Minutes = r.minutes()
	r.end(&rule)
	return rule
}

func (r *reader) pace(rule *Rule) {
	switch {
	case r.is("daily"):
		rule.Pace = Daily
		rule.Every = r.every()
	case r.is("weekly"):
		rule.Pace = Weekly
		rule.Every = r.every()
		rule.On = take(r, readOn)
	case r.is("monthly"):
		rule.Pace = Monthly
		rule.Every = r.every()
	default:
		r.wrong = true
	}
}

func (r *reader) end(rule *Rule) {
	switch {
	case r.is("times"):
		rule.Times = r.number(1, maxTimes)
	case r.is("until"):
		rule.Until = take(r, readDate)
	default:
		r.wrong = true
	}
}

func (r *reader) name() string {
	return take(r, readName)
}

func (r *reader) id() int {
	return take(r, readNum)
}

func (r *reader) units() int {
	return r.number(1, api.MaxUnits)
}

func (r *reader) minutes() int {
	return r.number(1, api.Horizon)
}

func (r *reader) every() int {
	return r.number(1, maxEvery)
}

func (r *reader) span() api.Span {
	return api.Span{From: take(r, readTime), To: take(r, readTime)}
}

func (r *reader) number(least int, most int) int {
	return take(r, func(word string) (int, bool) {
		n, ok := readNum(word)
		return n, ok && least <= n && n <= most
	})
}
