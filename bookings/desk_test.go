package bookings_test

import (
	"fmt"
	"math/rand"
	"slices"
	"strconv"
	"strings"
	"testing"

	"bookings/api"
	"bookings/bookings"
)

// say is a line and what a desk is to answer to it.
type say struct {
	line string
	want api.Reply
}

func sameEntry(a, b api.Entry) bool {
	return a.Id == b.Id && a.Kind == b.Kind && a.Thing == b.Thing && a.Units == b.Units && a.Until == b.Until && slices.Equal(a.Spans, b.Spans)
}

// sameReply: a list without entries may be nil or not (P2).
func sameReply(a, b api.Reply) bool {
	return a.Err == b.Err && a.At == b.At && a.N == b.N && slices.EqualFunc(a.Entries, b.Entries, sameEntry) &&
		slices.Equal(a.Days, b.Days) && slices.Equal(a.Granted, b.Granted) && slices.Equal(a.Ended, b.Ended)
}

func wantReplies(t *testing.T, d *bookings.Desk, says ...say) {
	t.Helper()
	for _, s := range says {
		if got := d.Do(s.line); !sameReply(got, s.want) {
			t.Errorf("Do(%q) = %+v, want %+v", s.line, got, s.want)
		}
	}
}

// deskOf makes a desk by lines of which each must be done.
func deskOf(t *testing.T, lines ...string) *bookings.Desk {
	t.Helper()
	d := bookings.New()
	for _, line := range lines {
		if r := d.Do(line); r.Err != api.OK {
			t.Fatalf("Do(%q) = %+v", line, r)
		}
	}
	return d
}

func number(n int) api.Reply { return api.Reply{N: n} }

func refusal(err api.Errno) api.Reply { return api.Reply{Err: err} }

func entries(list ...api.Entry) api.Reply { return api.Reply{Entries: list} }

func booked(id int, thing string, units, from, to int) api.Entry {
	return api.Entry{Id: id, Kind: api.Booked, Thing: thing, Units: units, Spans: []api.Span{{From: from, To: to}}}
}

// P5, P6, P10: the document's example.
func TestExampleOfTheDesk(t *testing.T) {
	wantReplies(t, bookings.New(),
		say{"thing room 2", number(0)},
		say{"book room 2 0 100", number(1)},
		say{"book room 1 99 101", refusal(api.ErrBusy)},
		say{"book room 1 100 200", number(2)},
		say{"find room 2 50 0 1000", number(200)},
		say{"find room 1 50 0 1000", number(100)},
		say{"find room 1 50 0 149", number(-1)},
		say{"peak room 0 1000", number(2)},
		say{"peak room 100 1000", number(1)},
	)
}

// P5 and P8's last sentence: a new desk has no things, gives numbers from 1 on, and stands at the time 0.
func TestNewDesk(t *testing.T) {
	wantReplies(t, bookings.New(),
		say{"clock", number(0)},
		say{"list a", refusal(api.ErrName)},
		say{"peak a 0 1", refusal(api.ErrName)},
		say{"find a 1 1 0 1", refusal(api.ErrName)},
		say{"book a 1 0 1", refusal(api.ErrName)},
		say{"cancel 1", refusal(api.ErrId)},
		say{"thing a 1", number(0)},
		say{"list a", entries()},
		say{"list a 0 1", entries()},
		say{"peak a 0 1048320", number(0)},
		say{"book a 1 0 1", number(1)},
		say{"clock", number(0)},
	)
}

// P5: the errors of Plain come first, with the word at which they are.
func TestNoLineForTheDesk(t *testing.T) {
	d := deskOf(t, "thing a 2", "book a 1 10 20")
	for _, line := range []string{
		"", "   ", "?", "thing", "thing a", "thing a 0", "thing a 10", "thing A 1", "thing a 1 1", "thing abcdefghi 1",
		"book", "book x", "book x 0 5 5", "book a 1 5", "book a 1 5 1048321", "book a 1 5 6 7", "book a 1 0 2025-12-29/00:01",
		"cancel", "cancel x", "cancel 12345678", "cancel -1", "cancel 1 1",
		"list", "list a 5", "list a 5 x", "list a 5 6 7", "peak a 5", "peak x 5 5 5", "find a 1 0 0 9", "find a 1 1048321 0 9", "find x 3 1 5",
		"clock now", "clock\t", "Clock", "\x00", "book\xff",
		strings.Repeat("x", api.MaxLine+1), "clock" + strings.Repeat(" ", api.MaxLine-4),
	} {
		_, err, at := bookings.Plain(line)
		if err == api.OK {
			t.Fatalf("%q is a line", line)
		}
		wantReplies(t, d, say{line, api.Reply{Err: err, At: at}})
	}
	wantReplies(t, d,
		say{"clock" + strings.Repeat(" ", api.MaxLine-5), number(0)},
		say{"list a", entries(booked(1, "a", 1, 10, 20))},
		say{"book a 2 20 30", number(2)},
	)
}

// P6: thing.
func TestThings(t *testing.T) {
	d := bookings.New()
	wantReplies(t, d, say{"thing a 9", number(0)}, say{"thing a 9", refusal(api.ErrTwice)}, say{"thing aa 1", number(0)})
	for i := 2; i < api.MaxThings; i++ {
		wantReplies(t, d, say{"thing " + strings.Repeat("b", i) + " 3", number(0)})
	}
	wantReplies(t, d,
		say{"thing new 1", refusal(api.ErrFull)},
		say{"thing a 1", refusal(api.ErrTwice)},
		say{"peak new 0 1", refusal(api.ErrName)},
		say{"book aa 2 0 1", refusal(api.ErrUnits)},
		say{"book a 9 0 1", number(1)},
		say{"book aa 1 0 1", number(2)},
		say{"book bb 3 0 1", number(3)},
		say{"list a", entries(booked(1, "a", 9, 0, 1))},
		say{"list aa", entries(booked(2, "aa", 1, 0, 1))},
		say{"list bb", entries(booked(3, "bb", 3, 0, 1))},
		say{"peak bbb 0 1", number(0)},
		say{"peak a 0 1", number(9)},
	)
}

// P6: MaxUnits of a thing, one by one and at once.
func TestMaxUnits(t *testing.T) {
	d := deskOf(t, fmt.Sprint("thing a ", api.MaxUnits))
	for i := 1; i <= api.MaxUnits; i++ {
		wantReplies(t, d, say{"book a 1 5 10", number(i)}, say{"peak a 0 100", number(i)})
	}
	wantReplies(t, d,
		say{"book a 1 9 10", refusal(api.ErrBusy)},
		say{"book a 9 0 6", refusal(api.ErrBusy)},
		say{"book a 9 0 5", number(10)},
		say{"book a 9 10 1048320", number(11)},
		say{"peak a 0 1048320", number(9)},
		say{"find a 1 1 0 1048320", number(-1)},
		say{"cancel 4", number(0)},
		say{"find a 1 1 0 1048320", number(5)},
		say{"find a 2 1 0 1048320", number(-1)},
		say{"peak a 5 10", number(8)},
		say{"book a 1 0 10", refusal(api.ErrBusy)},
		say{"book a 1 5 10", number(12)},
	)
}

// P6: spans that only touch, that share one minute, that end at Horizon.
func TestSpans(t *testing.T) {
	d := deskOf(t, "thing a 1", "book a 1 100 200")
	wantReplies(t, d,
		say{"book a 1 0 101", refusal(api.ErrBusy)},
		say{"book a 1 199 300", refusal(api.ErrBusy)},
		say{"book a 1 150 151", refusal(api.ErrBusy)},
		say{"book a 1 0 1048320", refusal(api.ErrBusy)},
		say{"book a 1 0 100", number(2)},
		say{"book a 1 200 201", number(3)},
		say{"book a 1 1048319 1048320", number(4)},
		say{"book a 1 1048319 2025-12-29/00:00", refusal(api.ErrBusy)},
		say{"book a 1 2025-12-28/23:58 1048319", number(5)},
		say{"book a 1 1048320 1048320", refusal(api.ErrTime)},
		say{"book a 1 201 2025-12-28/23:58", number(6)},
		say{"find a 1 1 0 1048320", number(-1)},
		say{"cancel 5", number(0)},
		say{"find a 1 1 0 1048320", number(1048318)},
		say{"book a 1 524160 524161", refusal(api.ErrBusy)},
		say{"cancel 6", number(0)},
		say{"list a", entries(booked(2, "a", 1, 0, 100), booked(1, "a", 1, 100, 200), booked(3, "a", 1, 200, 201), booked(4, "a", 1, 1048319, 1048320))},
	)
}

// P6, P7, P10: of several errors that apply the one named first is told.
func TestFirstError(t *testing.T) {
	d := deskOf(t, "thing a 2", "thing full 1", "book a 1 10 20")
	for _, s := range []say{
		{"book x 9 5 5", refusal(api.ErrName)}, {"book x 1 10 20", refusal(api.ErrName)},
		{"book a 3 5 5", refusal(api.ErrUnits)}, {"book a 3 10 20", refusal(api.ErrUnits)},
		{"book a 2 15 15", refusal(api.ErrTime)}, {"book a 2 16 15", refusal(api.ErrTime)},
		{"book a 2 15 16", refusal(api.ErrBusy)},
		{"list x 5 5", refusal(api.ErrName)}, {"list x 6 5", refusal(api.ErrName)}, {"list a 5 5", refusal(api.ErrTime)}, {"list a 6 5", refusal(api.ErrTime)},
		{"peak x 5 5", refusal(api.ErrName)}, {"peak a 5 5", refusal(api.ErrTime)}, {"peak a 1048320 0", refusal(api.ErrTime)},
		{"find x 9 1 5 5", refusal(api.ErrName)}, {"find a 3 1 5 5", refusal(api.ErrUnits)}, {"find a 3 9 5 6", refusal(api.ErrUnits)},
		{"find a 2 1 5 5", refusal(api.ErrTime)}, {"find a 2 9 6 5", refusal(api.ErrTime)},
		{"cancel 0", refusal(api.ErrId)}, {"cancel 2", refusal(api.ErrId)}, {"cancel 9999999", refusal(api.ErrId)},
		{"thing a 1", refusal(api.ErrTwice)},
	} {
		wantReplies(t, d, s, say{"list a", entries(booked(1, "a", 1, 10, 20))}, say{"list full", entries()}, say{"peak a 0 1048320", number(1)})
	}
	wantReplies(t, d, say{"book a 1 10 20", number(2)})
}

// P5 and P6: MaxId numbers and one more; those of what went and of what was refused do not come again.
func TestNumbers(t *testing.T) {
	d := deskOf(t, "thing a 1", "book a 1 0 10")
	for i := 2; i <= api.MaxId; i++ {
		wantReplies(t, d,
			say{"book a 1 9 10", refusal(api.ErrBusy)},
			say{"book a 1 10 20", number(i)},
			say{"cancel " + strconv.Itoa(i), number(0)},
			say{"cancel " + strconv.Itoa(i), refusal(api.ErrId)},
		)
	}
	wantReplies(t, d,
		say{"book a 1 10 20", refusal(api.ErrFull)},
		say{"book a 1 0 10", refusal(api.ErrFull)},
		say{"book a 1 10 10", refusal(api.ErrTime)},
		say{"book a 2 10 20", refusal(api.ErrUnits)},
		say{"book b 1 10 20", refusal(api.ErrName)},
		say{"list a", entries(booked(1, "a", 1, 0, 10))},
		say{"cancel 1", number(0)},
		say{"book a 1 0 10", refusal(api.ErrFull)},
		say{"find a 1 10 0 10", number(0)},
		say{"list a", entries()},
	)
}

// P6 and P10: MaxId bookings that stand at one time.
func TestManyBookings(t *testing.T) {
	d := deskOf(t, "thing a 1")
	var want []api.Entry
	for i := range api.MaxId {
		from := (i * 37 % api.MaxId) * 17000
		wantReplies(t, d, say{fmt.Sprint("book a 1 ", from, " ", from+16999), number(i + 1)})
		want = append(want, booked(i+1, "a", 1, from, from+16999))
	}
	slices.SortFunc(want, func(a, b api.Entry) int { return a.Spans[0].From - b.Spans[0].From })
	wantReplies(t, d,
		say{"list a", entries(want...)},
		say{"list a 16999 34000", entries(want[1])},
		say{"list a 16998 34001", entries(want[:3]...)},
		say{"find a 1 1 0 1048320", number(16999)},
		say{"find a 1 1 17000 1048320", number(33999)},
		say{"find a 1 2 0 1048320", number(59*17000 + 16999)},
	)
}

// P7: cancel; what went is told no more, and its room is free, of its thing alone.
func TestCancel(t *testing.T) {
	d := deskOf(t, "thing a 2", "thing b 2", "book a 1 10 20", "book b 2 10 20", "book a 1 15 25")
	wantReplies(t, d,
		say{"cancel 4", refusal(api.ErrId)},
		say{"cancel 001", number(0)},
		say{"cancel 1", refusal(api.ErrId)},
		say{"list a", entries(booked(3, "a", 1, 15, 25))},
		say{"list b", entries(booked(2, "b", 2, 10, 20))},
		say{"peak a 10 15", number(0)},
		say{"peak a 10 16", number(1)},
		say{"peak b 10 15", number(2)},
		say{"book a 2 10 15", number(4)},
		say{"cancel 3", number(0)},
		say{"cancel 2", number(0)},
		say{"cancel 4", number(0)},
		say{"peak a 0 1048320", number(0)},
		say{"peak b 0 1048320", number(0)},
		say{"list a", entries()},
		say{"list b", entries()},
		say{"book b 2 0 1048320", number(5)},
	)
}

// P10: list: who is told, and in which order.
func TestList(t *testing.T) {
	d := deskOf(t, "thing a 9", "thing b 9",
		"book a 1 30 40", "book a 2 10 50", "book b 1 0 100", "book a 3 30 31", "book a 1 10 20", "book a 1 0 1048320")
	one, two, four, five, six := booked(1, "a", 1, 30, 40), booked(2, "a", 2, 10, 50), booked(4, "a", 3, 30, 31), booked(5, "a", 1, 10, 20), booked(6, "a", 1, 0, 1048320)
	wantReplies(t, d,
		say{"list a", entries(six, two, five, one, four)},
		say{"list a 0 1048320", entries(six, two, five, one, four)},
		say{"list a 0 2025-12-29/00:00", entries(six, two, five, one, four)},
		say{"list a 0 10", entries(six)},
		say{"list a 0 11", entries(six, two, five)},
		say{"list a 20 30", entries(six, two)},
		say{"list a 19 30", entries(six, two, five)},
		say{"list a 31 32", entries(six, two, one)},
		say{"list a 30 31", entries(six, two, one, four)},
		say{"list a 50 1048320", entries(six)},
		say{"list a 49 50", entries(six, two)},
		say{"list a 1048319 1048320", entries(six)},
		say{"list b", entries(booked(3, "b", 1, 0, 100))},
		say{"list b 100 101", entries()},
		say{"cancel 6", number(0)},
		say{"list a 50 1048320", entries()},
		say{"list a 40 41", entries(two)},
	)
}

// P10: peak.
func TestPeak(t *testing.T) {
	d := deskOf(t, "thing a 9", "book a 2 10 20", "book a 3 15 30", "book a 4 20 25", "book a 1 1048319 1048320")
	for _, c := range []struct{ from, to, most int }{
		{0, 10, 0}, {0, 11, 2}, {9, 15, 2}, {10, 16, 5}, {14, 15, 2}, {15, 16, 5}, {19, 20, 5}, {20, 21, 7}, {24, 25, 7}, {25, 26, 3},
		{25, 30, 3}, {29, 30, 3}, {30, 31, 0}, {0, 1048320, 7}, {25, 1048320, 3}, {30, 1048319, 0}, {30, 1048320, 1}, {1048319, 1048320, 1},
	} {
		wantReplies(t, d, say{fmt.Sprint("peak a ", c.from, " ", c.to), number(c.most)})
	}
}

// P10: find: the first and the last time that it may tell, and none.
func TestFind(t *testing.T) {
	d := deskOf(t, "thing a 3", "book a 2 100 200", "book a 3 300 400", "book a 1 400 500")
	for _, c := range []struct{ units, minutes, from, to, start int }{
		{1, 1, 0, 1, 0}, {3, 100, 0, 100, 0}, {3, 101, 0, 101, -1}, {3, 101, 0, 1000, 500}, {3, 100, 1, 1000, 200}, {3, 100, 1, 299, -1},
		{3, 100, 200, 300, 200}, {3, 100, 201, 600, 500}, {3, 100, 201, 599, -1}, {1, 300, 0, 1000, 0}, {1, 301, 0, 1000, 400},
		{2, 100, 400, 500, 400}, {2, 50, 310, 450, 400}, {2, 50, 310, 449, -1}, {2, 51, 349, 1048320, 400}, {3, 1, 300, 400, -1}, {1, 1, 300, 400, -1},
		{1, 1, 300, 401, 400}, {3, 1, 99, 100, 99}, {3, 1, 100, 200, -1}, {1, 100, 100, 200, 100}, {1, 101, 100, 200, -1},
		{3, 1047820, 0, 1048320, 500}, {3, 1047821, 0, 1048320, -1}, {1, 1047920, 0, 1048320, 400}, {1, 1047921, 0, 1048320, -1}, {1, 1048320, 0, 1048320, -1},
		{3, 1, 1048319, 1048320, 1048319}, {3, 2, 1048319, 1048320, -1}, {3, 1048320, 0, 5, -1}, {3, 5, 150, 204, -1}, {3, 5, 150, 205, 200},
	} {
		wantReplies(t, d, say{fmt.Sprint("find a ", c.units, " ", c.minutes, " ", c.from, " ", c.to), number(c.start)})
	}
	wantReplies(t, deskOf(t, "thing a 1"),
		say{"find a 1 1048320 0 2025-12-29/00:00", number(0)},
		say{"find a 1 1048320 1 1048320", number(-1)},
		say{"find a 1 1440 2024-01-02/00:00 2024-01-03/00:00", number(1440)},
	)
}

// P2: the caller may write into what came out, spare room too: nothing else is changed by that.
func TestListsAreTheCallers(t *testing.T) {
	d := deskOf(t, "thing a 9", "book a 1 10 20", "book a 2 11 21", "book a 3 12 22")
	want := entries(booked(1, "a", 1, 10, 20), booked(2, "a", 2, 11, 21), booked(3, "a", 3, 12, 22))
	first := d.Do("list a")
	other := d.Do("list a")
	for i := range first.Entries {
		scribble(&first.Entries[i])
		for j := i + 1; j < len(first.Entries); j++ {
			if !sameEntry(first.Entries[j], want.Entries[j]) {
				t.Errorf("P2: writing into entry %d changes entry %d to %+v", i, j, first.Entries[j])
			}
		}
	}
	room := first.Entries[:cap(first.Entries)]
	for i := range room {
		room[i] = api.Entry{Id: 77, Thing: "x"}
	}
	if !sameReply(other, want) {
		t.Errorf("P2: writing into one answer changes another to %+v", other)
	}
	wantReplies(t, d, say{"list a", want}, say{"peak a 0 10", number(0)}, say{"peak a 0 1048320", number(6)}, say{"cancel 1", number(0)}, say{"peak a 0 11", number(0)})
	if !sameReply(other, want) {
		t.Errorf("P2: a later line changes an answer to %+v", other)
	}
}

func scribble(e *api.Entry) {
	e.Id, e.Kind, e.Units, e.Until = 55, 55, 55, 55
	room := e.Spans[:cap(e.Spans)]
	for i := range room {
		room[i] = api.Span{From: 1, To: 2}
	}
	e.Spans = append(e.Spans, api.Span{From: 3, To: 4})
}

// P2: desks are apart.
func TestDesksAreApart(t *testing.T) {
	a, b := deskOf(t, "thing a 1"), deskOf(t)
	wantReplies(t, b, say{"list a", refusal(api.ErrName)}, say{"thing a 2", number(0)})
	wantReplies(t, a, say{"book a 1 0 10", number(1)}, say{"book a 1 0 10", refusal(api.ErrBusy)})
	wantReplies(t, b, say{"list a", entries()}, say{"cancel 1", refusal(api.ErrId)}, say{"book a 2 5 15", number(1)})
	wantReplies(t, a, say{"list a", entries(booked(1, "a", 1, 0, 10))}, say{"cancel 1", number(0)}, say{"peak a 0 100", number(0)})
	wantReplies(t, b, say{"list a", entries(booked(1, "a", 2, 5, 15))}, say{"peak a 0 100", number(2)})
}

// P1 and P5: Do ends at all texts, and answers what Plain does to what is no line.
func TestAnyTexts(t *testing.T) {
	r := rand.New(rand.NewSource(11))
	d := deskOf(t, "thing room 9")
	for range 20000 {
		text := []byte(plainLines[r.Intn(len(plainLines))])
		for range r.Intn(4) {
			text[r.Intn(len(text))] = " 0159abo:/-,\t\x00\xff"[r.Intn(15)]
		}
		_, err, at := bookings.Plain(string(text))
		if got := d.Do(string(text)); err != api.OK && !sameReply(got, api.Reply{Err: err, At: at}) {
			t.Errorf("Do(%q) = %+v, but Plain tells %d, %d", text, got, err, at)
		}
	}
}
