package bookings_test

import (
	"fmt"
	"slices"
	"strings"
	"testing"
	"time"

	"bookings/api"
	"bookings/bookings"
)

// watched is a desk that is asked behind each line what stands, so that the sentences of P11 are held against what it tells.
type watched struct {
	t     *testing.T
	desk  *bookings.Desk
	past  []string               // the lines so far
	given int                    // numbers
	units map[string]int         // of each thing
	lists map[string][]api.Entry // of each thing
	queue []api.Entry
	met   map[string]int
}

// mostOf tells how much some entries take at most at a minute of a span: at its first, or where one of theirs begins.
func mostOf(list []api.Entry, within api.Span) int {
	most := 0
	asks := []int{within.From}
	for _, e := range list {
		for _, s := range e.Spans {
			if within.From < s.From && s.From < within.To {
				asks = append(asks, s.From)
			}
		}
	}
	for _, at := range asks {
		taken := 0
		for _, e := range list {
			for _, s := range e.Spans {
				if s.From <= at && at < s.To {
					taken += e.Units
				}
			}
		}
		most = max(most, taken)
	}
	return most
}

func (w *watched) fits(e api.Entry) bool {
	with := append(slices.Clone(w.lists[e.Thing]), e)
	return !slices.ContainsFunc(e.Spans, func(s api.Span) bool { return mostOf(with, s) > w.units[e.Thing] })
}

// asked is what a line asks for, as an entry.
func (w *watched) asked(words []string) api.Entry {
	if words[0] != "series" {
		return booked(0, words[1], num(words[2]), num(words[3]), num(words[4]))
	}
	at, _ := time.Parse("15:04", words[slices.Index(words, "at")+1])
	minutes := num(words[slices.Index(words, "for")+1])
	e := api.Entry{Kind: api.Booked, Thing: words[1], Units: num(words[2])}
	for _, day := range w.desk.Do("expand " + strings.Join(words[3:], " ")).Days {
		from := day*api.DayMinutes + at.Hour()*60 + at.Minute()
		e.Spans = append(e.Spans, api.Span{From: from, To: from + minutes})
	}
	return e
}

// do tells the desk a line and looks at all that P11 says of it.
func (w *watched) do(line string) {
	words := strings.Fields(line)
	reply := w.desk.Do(line)
	w.past = append(w.past, line)
	w.met[fmt.Sprint(words[0], " ", reply.Err)]++
	switch words[0] {
	case "thing":
		if reply.Err == api.OK {
			w.units[words[1]] = num(words[2])
		}
	case "book", "hold", "series":
		w.entered(line, words, reply)
	case "find":
		if reply.Err == api.OK {
			w.found(words, reply.N)
		}
	}
	if reply.Err == api.OK && slices.Contains([]string{"book", "hold", "wait", "series"}, words[0]) {
		w.given++
	}
	w.look(line, reply)
}

// entered: what would fit is never refused as busy, what would not never booked; a series is booked whole.
func (w *watched) entered(line string, words []string, reply api.Reply) {
	if reply.Err != api.OK && reply.Err != api.ErrBusy {
		return
	}
	asked := w.asked(words)
	if fits := w.fits(asked); fits != (reply.Err == api.OK) {
		w.t.Fatalf("P11: %q is answered by %+v, but whether it fits is %v", line, reply, fits)
	}
	if reply.Err != api.OK {
		return
	}
	told := w.desk.Do("list " + words[1]).Entries
	i := slices.IndexFunc(told, func(e api.Entry) bool { return e.Id == reply.N })
	if i < 0 || !slices.Equal(told[i].Spans, asked.Spans) || len(asked.Spans) == 0 {
		w.t.Fatalf("P11: %q is not booked whole: %+v", line, told)
	}
}

// found: a time that find tells can be booked by the next line, and no earlier one can.
func (w *watched) found(words []string, start int) {
	e := booked(0, words[1], num(words[2]), 0, 0)
	minutes, from, to := num(words[3]), num(words[4]), num(words[5])
	last := start - 1
	if start < 0 {
		last = to - minutes
	}
	for s := from; s <= last; s += 1 + (last-from)/50 {
		e.Spans[0] = api.Span{From: s, To: s + minutes}
		if w.fits(e) {
			w.t.Fatalf("P11: %q tells %d, but %d is free", words, start, s)
		}
	}
	if start < 0 || w.given == api.MaxId {
		return
	}
	again := bookings.New()
	for _, line := range w.past {
		again.Do(line)
	}
	w.met["found"]++
	if start > from {
		wantReplies(w.t, again, say{fmt.Sprint("book ", words[1], " ", words[2], " ", start-1, " ", start-1+minutes), refusal(api.ErrBusy)})
	}
	wantReplies(w.t, again, say{fmt.Sprint("book ", words[1], " ", words[2], " ", start, " ", start+minutes), number(w.given + 1)})
}

// look: at no minute is more taken of a thing than it has; nobody waits who would fit; what is refused changes nothing.
func (w *watched) look(line string, reply api.Reply) {
	lists := map[string][]api.Entry{}
	whole := api.Span{From: 0, To: api.Horizon}
	for name, units := range w.units {
		lists[name] = w.desk.Do("list " + name).Entries
		most := mostOf(lists[name], whole)
		if peak := w.desk.Do(fmt.Sprint("peak ", name, " 0 1048320")).N; most > units || peak != most {
			w.t.Fatalf("P11: behind %q %d are taken of %s, which has %d, and peak tells %d", line, most, name, units, peak)
		}
		if reply.Err != api.OK && !slices.EqualFunc(lists[name], w.lists[name], sameEntry) {
			w.t.Fatalf("P1: %q is refused, but %+v becomes %+v", line, w.lists[name], lists[name])
		}
	}
	queue := w.desk.Do("waiting").Entries
	if reply.Err != api.OK && !slices.EqualFunc(queue, w.queue, sameEntry) {
		w.t.Fatalf("P1: %q is refused, but %+v becomes %+v", line, w.queue, queue)
	}
	w.lists, w.queue = lists, queue
	for _, e := range queue {
		w.met["waiting on"]++
		if e.Kind != api.Waiting || w.fits(e) {
			w.t.Fatalf("P11: behind %q %+v waits, and would fit", line, e)
		}
	}
}

// P11: each of its sentences but the last, behind each line of long rows of lines of every kind.
func TestSentencesOfP11(t *testing.T) {
	met := map[string]int{}
	for seed := 1000; seed < 1035; seed++ {
		w := &watched{t: t, desk: bookings.New(), units: map[string]int{}, met: met}
		for _, line := range row(seed) {
			w.do(line)
		}
	}
	for _, kind := range []string{"book 0", "book 8", "hold 0", "hold 8", "series 0", "series 8", "wait 0", "cancel 0", "tick 0", "find 0", "found", "waiting on"} {
		if met[kind] < 20 {
			t.Errorf("only %d times: %s", met[kind], kind)
		}
	}
}

// P11: the plain form of a line does what the line does, and is its own plain form, however it is written.
func TestPlainFormDoesTheSame(t *testing.T) {
	for seed := 2000; seed < 2020; seed++ {
		written, plain := bookings.New(), bookings.New()
		for _, line := range row(seed) {
			line = "  " + strings.ReplaceAll(line, " 1", "   01") + " "
			form, err, _ := bookings.Plain(line)
			if again, _, _ := bookings.Plain(form); err == api.OK && again != form {
				t.Fatalf("P11: %q has the plain form %q, and that %q", line, form, again)
			}
			want := written.Do(line)
			if err != api.OK {
				continue
			}
			if got := plain.Do(form); !sameReply(got, want) {
				t.Fatalf("P11: %q is answered by %+v, its plain form %q by %+v", line, want, form, got)
			}
		}
	}
}
