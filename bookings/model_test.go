package bookings_test

import (
	"cmp"
	"fmt"
	"math/rand"
	"slices"
	"strconv"
	"strings"
	"testing"
	"time"

	"bookings/api"
	"bookings/bookings"
)

// model is a desk that keeps all in lists, goes through them whole at each line, and lets time go by minute by minute.
type model struct {
	names      []string
	units      []int
	entries    []api.Entry // in the order of their numbers
	given, now int
}

// num is a word as a number; 0, if it is none.
func num(word string) int {
	n, _ := strconv.Atoi(word)
	return n
}

func (m *model) do(line string) api.Reply {
	reply := m.answer(strings.Fields(line))
	if reply.Err == api.OK {
		reply.Granted = append(reply.Granted, m.grant()...)
	}
	return reply
}

func (m *model) answer(words []string) api.Reply {
	switch words[0] {
	case "thing":
		return m.thing(words[1], num(words[2]))
	case "confirm":
		return m.confirm(num(words[1]))
	case "cancel":
		return m.cancel(num(words[1]))
	case "expand":
		days, err := modelDays(words[1:])
		return api.Reply{Err: err, N: len(days), Days: days}
	case "tick":
		return m.tick(num(words[1]))
	case "waiting":
		return entries(m.waiting()...)
	case "clock":
		return number(m.now)
	}
	thing := slices.Index(m.names, words[1])
	if thing < 0 {
		return refusal(api.ErrName)
	}
	return m.of(thing, words)
}

// of answers to a line that is about a thing.
func (m *model) of(thing int, words []string) api.Reply {
	name := m.names[thing]
	switch words[0] {
	case "list":
		return m.list(name, words[2:])
	case "peak":
		from, to := num(words[2]), num(words[3])
		if from >= to {
			return refusal(api.ErrTime)
		}
		return number(m.peak(name, from, to))
	}
	if num(words[2]) > m.units[thing] {
		return refusal(api.ErrUnits)
	}
	switch words[0] {
	case "find":
		return m.find(thing, num(words[2]), num(words[3]), num(words[4]), num(words[5]))
	case "series":
		return m.series(thing, num(words[2]), words[3:])
	}
	entry := booked(0, name, num(words[2]), num(words[3]), num(words[4]))
	switch words[0] {
	case "hold":
		entry.Kind, entry.Until = api.Held, m.now+num(words[5])
	case "wait":
		entry.Kind, entry.Until = api.Waiting, m.now+num(words[5])
	}
	if entry.Spans[0].From >= entry.Spans[0].To || entry.Until > api.Horizon {
		return refusal(api.ErrTime)
	}
	return m.enter(entry)
}

func (m *model) thing(name string, units int) api.Reply {
	if slices.Contains(m.names, name) {
		return refusal(api.ErrTwice)
	}
	if len(m.names) == api.MaxThings {
		return refusal(api.ErrFull)
	}
	m.names, m.units = append(m.names, name), append(m.units, units)
	return api.Reply{}
}

func (m *model) series(thing, units int, rule []string) api.Reply {
	days, err := modelDays(rule)
	if err != api.OK {
		return refusal(err)
	}
	at, _ := time.Parse("15:04", rule[slices.Index(rule, "at")+1])
	minutes := num(rule[slices.Index(rule, "for")+1])
	entry := api.Entry{Kind: api.Booked, Thing: m.names[thing], Units: units}
	for _, day := range days {
		from := day*api.DayMinutes + at.Hour()*60 + at.Minute()
		entry.Spans = append(entry.Spans, api.Span{From: from, To: from + minutes})
	}
	return m.enter(entry)
}

// modelDays asks of each day whether it is one of the rule.
func modelDays(words []string) ([]int, api.Errno) {
	after := func(word string) string { return words[slices.Index(words, word)+1] }
	first, _ := time.Parse(time.DateOnly, after("from"))
	at, _ := time.Parse("15:04", after("at"))
	last, times := first.AddDate(9, 0, 0), 0
	if slices.Contains(words, "until") {
		last, _ = time.Parse(time.DateOnly, after("until"))
	} else {
		times = num(after("times"))
	}
	var days []int
	for day := range api.Days {
		date := time.Date(2024, 1, 1+day, 0, 0, 0, 0, time.UTC)
		if !date.Before(first) && !date.After(last) && (times == 0 || len(days) < times) && isOfRule(words, first, date) {
			days = append(days, day)
		}
	}
	if times > api.MaxSeries || len(days) > api.MaxSeries {
		return nil, api.ErrMany
	}
	if len(days) == 0 || len(days) < times || days[len(days)-1]*api.DayMinutes+at.Hour()*60+at.Minute()+num(after("for")) > api.Horizon {
		return nil, api.ErrTime
	}
	return days, api.OK
}

// isOfRule tells whether a date that is not ahead of the first is one of a rule without an end.
func isOfRule(words []string, first, date time.Time) bool {
	every := num(words[1])
	switch words[0] {
	case "weekly":
		for first.Weekday() != time.Monday {
			first = first.AddDate(0, 0, -1)
		}
		weeks := int(date.Sub(first).Hours()) / (7 * 24)
		return weeks%every == 0 && strings.Contains(words[2], strings.ToLower(date.Weekday().String()[:2]))
	case "monthly":
		months := (date.Year()-first.Year())*12 + int(date.Month()) - int(first.Month())
		return months%every == 0 && date.Day() == first.Day()
	}
	return int(date.Sub(first).Hours())/24%every == 0
}

func (m *model) enter(e api.Entry) api.Reply {
	if m.given == api.MaxId || e.Kind == api.Waiting && len(m.waiting()) == api.MaxWaiting {
		return refusal(api.ErrFull)
	}
	if e.Kind != api.Waiting && !m.fits(e) {
		return refusal(api.ErrBusy)
	}
	m.given++
	e.Id = m.given
	m.entries = append(slices.Clone(m.entries), e)
	return number(m.given)
}

// fits tells whether there is room for an entry that takes nothing yet.
func (m *model) fits(e api.Entry) bool {
	e.Kind = api.Booked
	with := &model{entries: append(slices.Clone(m.entries), e)}
	units := m.units[slices.Index(m.names, e.Thing)]
	return !slices.ContainsFunc(e.Spans, func(s api.Span) bool { return with.peak(e.Thing, s.From, s.To) > units })
}

func (m *model) waiting() []api.Entry {
	return slices.DeleteFunc(slices.Clone(m.entries), func(e api.Entry) bool { return e.Kind != api.Waiting })
}

func (m *model) grant() []int {
	var ids []int
	for i := range m.entries {
		if e := &m.entries[i]; e.Kind == api.Waiting && m.fits(*e) {
			e.Kind, e.Until = api.Booked, 0
			ids = append(ids, e.Id)
		}
	}
	return ids
}

func (m *model) index(id int) int {
	return slices.IndexFunc(m.entries, func(e api.Entry) bool { return e.Id == id })
}

func (m *model) confirm(id int) api.Reply {
	i := m.index(id)
	if i < 0 {
		return refusal(api.ErrId)
	}
	if m.entries[i].Kind != api.Held {
		return refusal(api.ErrState)
	}
	m.entries[i].Kind, m.entries[i].Until = api.Booked, 0
	return api.Reply{}
}

func (m *model) cancel(id int) api.Reply {
	i := m.index(id)
	if i < 0 {
		return refusal(api.ErrId)
	}
	m.entries = slices.Delete(slices.Clone(m.entries), i, i+1)
	return api.Reply{}
}

func (m *model) tick(minutes int) api.Reply {
	if m.now+minutes > api.Horizon {
		return refusal(api.ErrTime)
	}
	var reply api.Reply
	for range minutes {
		m.now++
		before := len(m.entries)
		for i := 0; i < len(m.entries); i++ {
			if m.entries[i].Until == m.now {
				reply.Ended = append(reply.Ended, m.entries[i].Id)
				m.entries = slices.Delete(slices.Clone(m.entries), i, i+1)
				i--
			}
		}
		if len(m.entries) < before {
			reply.Granted = append(reply.Granted, m.grant()...)
		}
	}
	reply.N = m.now
	return reply
}

func (m *model) list(name string, times []string) api.Reply {
	from, to := 0, api.Horizon
	if len(times) > 0 {
		from, to = num(times[0]), num(times[1])
	}
	if from >= to {
		return refusal(api.ErrTime)
	}
	meets := func(s api.Span) bool { return s.From < to && from < s.To }
	first := func(e api.Entry) int { return e.Spans[slices.IndexFunc(e.Spans, meets)].From }
	var out []api.Entry
	for _, e := range m.entries {
		if e.Thing == name && e.Kind != api.Waiting && slices.ContainsFunc(e.Spans, meets) {
			out = append(out, e)
		}
	}
	slices.SortFunc(out, func(a, b api.Entry) int { return cmp.Or(first(a)-first(b), a.Id-b.Id) })
	return api.Reply{Entries: out}
}

// all are the spans that take of a thing, each so many times as it takes units.
func (m *model) all(name string) []api.Span {
	var out []api.Span
	for _, e := range m.entries {
		for range e.Units {
			if e.Thing == name && e.Kind != api.Waiting {
				out = append(out, e.Spans...)
			}
		}
	}
	return out
}

// peak asks only at the first minute and at those at which a span begins: at no other is more taken than ahead of it.
func (m *model) peak(name string, from, to int) int {
	all, most := m.all(name), 0
	for _, at := range append(all, api.Span{From: from}) {
		if at.From < from || at.From >= to {
			continue
		}
		taken := 0
		for _, s := range all {
			if s.From <= at.From && at.From < s.To {
				taken++
			}
		}
		most = max(most, taken)
	}
	return most
}

// find tries only the first time and those at which a span ends: at any other there is room only if there is from a minute earlier on.
func (m *model) find(thing, units, minutes, from, to int) api.Reply {
	if from >= to {
		return refusal(api.ErrTime)
	}
	best := -1
	for _, s := range append(m.all(m.names[thing]), api.Span{To: from}) {
		if s.To < from || s.To+minutes > to || best >= 0 && best <= s.To {
			continue
		}
		if m.peak(m.names[thing], s.To, s.To+minutes)+units <= m.units[thing] {
			best = s.To
		}
	}
	return number(best)
}

// field is where the times of lines by chance lie: so many steps of so many minutes, from a base on.
type field struct {
	base, step, steps int
}

func (f field) span(r *rand.Rand) string {
	from := r.Intn(f.steps + 1)
	to := max(0, min(f.steps, from+r.Intn(12)-1))
	return fmt.Sprint(f.base+from*f.step, " ", f.base+to*f.step)
}

func (f field) rule(r *rand.Rand) string {
	day := func(most int) string {
		number := min(api.Days-1, max(0, (f.base+r.Intn(f.steps)*f.step)/api.DayMinutes+r.Intn(most)-most/3))
		return time.Date(2024, 1, 1+number, 0, 0, 0, 0, time.UTC).Format(time.DateOnly)
	}
	pace := fmt.Sprint([]string{"daily ", "weekly ", "monthly "}[r.Intn(3)], 1+r.Intn(1+r.Intn(4)))
	if strings.HasPrefix(pace, "weekly") {
		pace += " " + []string{"mo", "tu,su", "we,th,fr", "sa,mo", "su,sa,fr,th,we,tu,mo"}[r.Intn(5)]
	}
	at := (f.base + r.Intn(f.steps)*f.step) % api.DayMinutes
	end := fmt.Sprint("times ", 1+r.Intn(1+r.Intn(8)))
	switch r.Intn(8) {
	case 0:
		end = fmt.Sprint("times ", api.MaxSeries-3+r.Intn(8))
	case 1:
		end = "until " + day(400)
	case 2, 3, 4:
		end = "until " + day(30)
	}
	return fmt.Sprintf("%s from %s at %02d:%02d for %d %s", pace, day(3), at/60, at%60, 1+r.Intn(8)*f.step, end)
}

// line makes a line by chance.
func (f field) line(r *rand.Rand) string {
	name, units := string(rune('a'+r.Intn(6))), 1+r.Intn(5)
	switch r.Intn(22) {
	case 0:
		return fmt.Sprint("thing ", name, " ", units)
	case 1, 2:
		return fmt.Sprint("book ", name, " ", units, " ", f.span(r))
	case 3, 4, 5:
		return fmt.Sprint("hold ", name, " ", units, " ", f.span(r), " ", 1+r.Intn(30))
	case 6, 7:
		return fmt.Sprint("series ", name, " ", 1+r.Intn(2), " ", f.rule(r))
	case 8:
		return "expand " + f.rule(r)
	case 9:
		return fmt.Sprint("confirm ", r.Intn(api.MaxId+2))
	case 10, 11:
		return fmt.Sprint("cancel ", r.Intn(api.MaxId+2))
	case 12:
		return fmt.Sprint("tick ", 1+r.Intn(1+r.Intn(20)))
	case 13:
		return fmt.Sprint("list ", name, " ", f.span(r))
	case 14:
		return "list " + name
	case 15:
		return fmt.Sprint("peak ", name, " ", f.span(r))
	case 16, 17, 18:
		return fmt.Sprint("wait ", name, " ", units, " ", f.span(r), " ", 1+r.Intn(60))
	case 19:
		return "waiting"
	case 20:
		return "clock"
	}
	return fmt.Sprint("find ", name, " ", units, " ", 1+r.Intn(9)*f.step, " ", f.span(r))
}

// crowd makes a line of those by which many come to wait for the same, where so many numbers may have been given away.
func (f field) crowd(r *rand.Rand, numbers int) string {
	name, from := string(rune('a'+r.Intn(2))), f.base+r.Intn(12)*f.step
	switch r.Intn(9) {
	case 0, 1:
		return fmt.Sprint("hold ", name, " ", 1+r.Intn(4), " ", f.base, " ", f.base+14*f.step, " ", 1+r.Intn(40))
	case 2, 3, 4:
		return fmt.Sprint("wait ", name, " ", 1+r.Intn(2), " ", from, " ", from+(1+r.Intn(4))*f.step, " ", 1+r.Intn(90))
	case 5:
		return fmt.Sprint("book ", name, " 1 ", from, " ", from+(1+r.Intn(9))*f.step)
	case 6, 7:
		return fmt.Sprint("cancel ", 1+r.Intn(numbers))
	}
	return fmt.Sprint("tick ", 1+r.Intn(25))
}

// row makes a row of lines by chance, of every kind.
func row(seed int) []string {
	r := rand.New(rand.NewSource(int64(seed)))
	fields := []field{{0, 1, 40}, {1000, 1, 40}, {api.Horizon/2 - 15, 1, 40}, {api.Horizon - 40, 1, 40}, {0, 240, 60}, {100000, 360, 80}, {api.Horizon - 14400, 360, 40}}
	f := fields[seed%len(fields)]
	lines := []string{"thing a 4", "thing b 2"}
	if seed%5 == 0 {
		lines = append(lines, "tick 1048200")
	}
	for i := range 600 {
		if seed%2 == 0 && i%3 > 0 {
			lines = append(lines, f.crowd(r, min(1+i/3, api.MaxId)))
		} else {
			lines = append(lines, f.line(r))
		}
	}
	return lines
}

// P5 to P11, P1: lines by chance, held against the model; a second desk is told each line in its plain form.
func TestDeskAgainstModel(t *testing.T) {
	done := map[string]int{}
	for seed := range 140 {
		d, plain, m := bookings.New(), bookings.New(), &model{}
		for _, line := range row(seed) {
			want := m.do(line)
			if got := d.Do(line); !sameReply(got, want) {
				t.Fatalf("Do(%q) = %+v, want %+v", line, got, want)
			}
			form, err, _ := bookings.Plain(line)
			if got := plain.Do(form); err != api.OK || !sameReply(got, want) {
				t.Fatalf("P11: Do(%q) = %+v, but its plain form %q: %+v", line, want, form, got)
			}
			kind := strings.Fields(line)[0]
			done[fmt.Sprint(kind, " ", want.Err)]++
			if len(want.Ended) > 1 {
				done["ended several"]++
			}
			if len(want.Granted) > 0 {
				done["granted by "+kind]++
			}
			if len(want.Granted) > 1 {
				done["granted several by "+kind]++
			}
		}
	}
	for _, met := range []string{
		"book 0", "book 8", "hold 0", "hold 6", "hold 8", "series 0", "series 5", "series 6", "series 8", "series 11",
		"wait 0", "wait 3", "wait 5", "wait 6", "wait 7", "waiting 0", "granted by wait", "granted by cancel", "granted by tick", "granted several by cancel", "granted several by tick",
		"confirm 0", "confirm 9", "confirm 10", "cancel 0", "tick 0", "tick 6", "expand 0", "expand 6", "expand 11", "ended several",
	} {
		if done[met] < 20 {
			t.Errorf("only %d times: %s", done[met], met)
		}
	}
}

// P11: a time that find tells can be booked by the next line, and no earlier one can.
func TestFoundTimes(t *testing.T) {
	r := rand.New(rand.NewSource(3))
	for range 60 {
		lines := []string{"thing a 3"}
		for i := 0; i < 12; i++ {
			from := r.Intn(60)
			lines = append(lines, fmt.Sprint("book a ", 1+r.Intn(2), " ", from, " ", from+1+r.Intn(10)))
		}
		d := bookings.New()
		for _, line := range lines {
			d.Do(line)
		}
		units, long, from := 1+r.Intn(3), 1+r.Intn(8), r.Intn(40)
		found := d.Do(fmt.Sprint("find a ", units, " ", long, " ", from, " 1000")).N
		for s := from; s < found; s++ {
			wantReplies(t, d, say{fmt.Sprint("book a ", units, " ", s, " ", s+long), refusal(api.ErrBusy)})
		}
		if got := d.Do(fmt.Sprint("book a ", units, " ", found, " ", found+long)); got.Err != api.OK {
			t.Errorf("P11: %d for %d minutes was found, but is refused: %+v", found, long, got)
		}
	}
}
