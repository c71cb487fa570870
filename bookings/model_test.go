package bookings_test

import (
	"fmt"
	"math/rand"
	"slices"
	"strings"
	"testing"

	"bookings/api"
	"bookings/bookings"
)

// model is a desk that counts minute by minute and keeps all in lists.
type model struct {
	names   []string
	units   []int
	entries []api.Entry
	given   int
}

// do answers to a line whose words are given, numbers as ints.
func (m *model) do(kind, name string, n ...int) api.Reply {
	switch kind {
	case "thing":
		return m.thing(name, n[0])
	case "cancel":
		return m.cancel(n[0])
	case "clock":
		return api.Reply{}
	}
	thing := slices.Index(m.names, name)
	if thing < 0 {
		return refusal(api.ErrName)
	}
	from, to := n[len(n)-2], n[len(n)-1]
	if (kind == "book" || kind == "find") && n[0] > m.units[thing] {
		return refusal(api.ErrUnits)
	}
	if from >= to {
		return refusal(api.ErrTime)
	}
	switch kind {
	case "book":
		return m.book(thing, n[0], from, to)
	case "list":
		return m.list(name, from, to)
	case "peak":
		return number(m.peak(name, from, to))
	}
	for s := from; s+n[1] <= to; s++ {
		if m.peak(name, s, s+n[1])+n[0] <= m.units[thing] {
			return number(s)
		}
	}
	return number(-1)
}

func (m *model) thing(name string, units int) api.Reply {
	if slices.Contains(m.names, name) {
		return refusal(api.ErrTwice)
	}
	if len(m.names) == api.MaxThings {
		return refusal(api.ErrFull)
	}
	m.names, m.units = append(m.names, name), append(m.units, units)
	return api.Reply{}
}

func (m *model) book(thing, units, from, to int) api.Reply {
	if m.given == api.MaxId {
		return refusal(api.ErrFull)
	}
	if m.peak(m.names[thing], from, to)+units > m.units[thing] {
		return refusal(api.ErrBusy)
	}
	m.given++
	m.entries = append(m.entries, booked(m.given, m.names[thing], units, from, to))
	return number(m.given)
}

func (m *model) cancel(id int) api.Reply {
	left := slices.DeleteFunc(slices.Clone(m.entries), func(e api.Entry) bool { return e.Id == id })
	if len(left) == len(m.entries) {
		return refusal(api.ErrId)
	}
	m.entries = left
	return api.Reply{}
}

func (m *model) list(name string, from, to int) api.Reply {
	var out []api.Entry
	for _, e := range m.entries {
		if e.Thing == name && e.Spans[0].From < to && from < e.Spans[0].To {
			out = append(out, e)
		}
	}
	slices.SortStableFunc(out, func(a, b api.Entry) int { return a.Spans[0].From - b.Spans[0].From })
	return api.Reply{Entries: out}
}

func (m *model) peak(name string, from, to int) int {
	most := 0
	for minute := from; minute < to; minute++ {
		taken := 0
		for _, e := range m.entries {
			if e.Thing == name && e.Spans[0].From <= minute && minute < e.Spans[0].To {
				taken += e.Units
			}
		}
		most = max(most, taken)
	}
	return most
}

// anyLine makes a line by chance, whose times lie within some minutes, and its words for the model.
func anyLine(r *rand.Rand, base, minutes int) (string, string, []int) {
	kind := []string{"book", "book", "book", "cancel", "cancel", "list", "peak", "find", "find", "thing", "clock"}[r.Intn(11)]
	name := string(rune('a' + r.Intn(6)))
	var n []int
	switch kind {
	case "clock":
		return kind, name, nil
	case "cancel":
		n = []int{r.Intn(api.MaxId + 2)}
		return fmt.Sprint(kind, " ", n[0]), name, n
	case "thing", "book":
		n = append(n, 1+r.Intn(5))
	case "find":
		n = append(n, 1+r.Intn(5), 1+r.Intn(9))
	}
	if kind != "thing" {
		from := r.Intn(minutes + 1)
		n = append(n, base+from, base+min(minutes, from+r.Intn(12)-1+r.Intn(2)))
	}
	for i := range n {
		n[i] = max(0, n[i])
	}
	return kind + " " + name + strings.TrimSuffix(" "+strings.Trim(fmt.Sprint(n), "[]"), " "), name, n
}

// P5 to P7, P10 and P11, P1: lines by chance, held against the model; a second desk is told each line in its plain form.
func TestDeskAgainstModel(t *testing.T) {
	const minutes = 40
	for seed := range 120 {
		r := rand.New(rand.NewSource(int64(seed)))
		base := []int{0, 1000, api.Horizon/2 - 15, api.Horizon - minutes}[seed%4]
		d, plain, m := bookings.New(), bookings.New(), &model{}
		done := 0
		for range 400 {
			line, name, n := anyLine(r, base, minutes)
			want := m.do(strings.Fields(line)[0], name, n...)
			if got := d.Do(line); !sameReply(got, want) {
				t.Fatalf("Do(%q) = %+v, want %+v", line, got, want)
			}
			if want.Err == api.OK {
				done++
			}
			form, err, _ := bookings.Plain(line)
			if got := plain.Do(form); err != api.OK || !sameReply(got, want) {
				t.Fatalf("P11: Do(%q) = %+v, but its plain form %q: %+v", line, want, form, got)
			}
		}
		if done < 80 {
			t.Errorf("only %d lines were done", done)
		}
	}
}

// P11: a time that find tells can be booked by the next line, and no earlier one can.
func TestFoundTimes(t *testing.T) {
	r := rand.New(rand.NewSource(3))
	for range 60 {
		lines := []string{"thing a 3"}
		for i := 0; i < 12; i++ {
			from := r.Intn(60)
			lines = append(lines, fmt.Sprint("book a ", 1+r.Intn(2), " ", from, " ", from+1+r.Intn(10)))
		}
		d := bookings.New()
		for _, line := range lines {
			d.Do(line)
		}
		units, long, from := 1+r.Intn(3), 1+r.Intn(8), r.Intn(40)
		found := d.Do(fmt.Sprint("find a ", units, " ", long, " ", from, " 1000")).N
		for s := from; s < found; s++ {
			wantReplies(t, d, say{fmt.Sprint("book a ", units, " ", s, " ", s+long), refusal(api.ErrBusy)})
		}
		if got := d.Do(fmt.Sprint("book a ", units, " ", found, " ", found+long)); got.Err != api.OK {
			t.Errorf("P11: %d for %d minutes was found, but is refused: %+v", found, long, got)
		}
	}
}
