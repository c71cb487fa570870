package bookings_test

import (
	"fmt"
	"slices"
	"testing"

	"bookings/api"
	"bookings/bookings"
)

func waits(id int, thing string, units, from, to, until int) api.Entry {
	e := booked(id, thing, units, from, to)
	e.Kind, e.Until = api.Waiting, until
	return e
}

// granted is the answer with a number to a line by which some who waited were booked.
func granted(n int, ids ...int) api.Reply { return api.Reply{N: n, Granted: ids} }

// ticked is the answer to a tick by which some ended and some were booked.
func ticked(now int, ended, granted []int) api.Reply {
	return api.Reply{N: now, Ended: ended, Granted: granted}
}

// P6, P8 and P9: the document's example.
func TestExampleOfWaiting(t *testing.T) {
	d := deskOf(t, "thing room 2", "book room 2 0 100", "book room 1 100 200", "hold room 1 100 200 30")
	four := waits(4, "room", 2, 50, 150, 40)
	wantReplies(t, d,
		say{"wait room 2 50 150 40", number(4)},
		say{"waiting", entries(four)},
		say{"cancel 1", number(0)},
		say{"tick 30", ended(30, 3)},
		say{"waiting", entries(four)},
		say{"cancel 2", granted(0, 4)},
		say{"list room", entries(booked(4, "room", 2, 50, 150))},
		say{"waiting", entries()},
	)
}

// P5 and P10: who waits takes nothing, and is told by waiting alone.
func TestWaitingTakesNothing(t *testing.T) {
	d := deskOf(t, "thing a 2", "book a 1 0 10")
	wantReplies(t, d,
		say{"waiting", entries()},
		say{"wait a 2 5 20 100", number(2)},
		say{"waiting", entries(waits(2, "a", 2, 5, 20, 100))},
		say{"list a", entries(booked(1, "a", 1, 0, 10))},
		say{"list a 10 20", entries()},
		say{"peak a 0 100", number(1)},
		say{"find a 1 20 0 100", number(0)},
		say{"find a 2 10 0 100", number(10)},
		say{"book a 1 0 20", number(3)},
		say{"hold a 1 10 20 5", number(4)},
		say{"list a", entries(booked(1, "a", 1, 0, 10), booked(3, "a", 1, 0, 20), held(4, "a", 1, 10, 20, 5))},
		say{"waiting", entries(waits(2, "a", 2, 5, 20, 100))},
		say{"waiting 2", api.Reply{Err: api.ErrWord, At: 1}},
	)
}

// P9: who begins to wait and fits is booked at once, under their number, and does not end.
func TestBeginsToWaitAndFits(t *testing.T) {
	d := deskOf(t, "thing a 1")
	wantReplies(t, d,
		say{"wait a 1 0 10 5", granted(1, 1)},
		say{"waiting", entries()},
		say{"list a", entries(booked(1, "a", 1, 0, 10))},
		say{"confirm 1", refusal(api.ErrState)},
		say{"tick 5", ended(5)},
		say{"wait a 1 9 11 50", number(2)},
		say{"wait a 1 10 11 50", granted(3, 3)},
		say{"wait a 1 10 11 50", number(4)},
		say{"waiting", entries(waits(2, "a", 1, 9, 11, 55), waits(4, "a", 1, 10, 11, 55))},
		say{"peak a 0 100", number(1)},
		say{"cancel 1", number(0)},
		say{"cancel 3", granted(0, 2)},
		say{"list a", entries(booked(2, "a", 1, 9, 11))},
		say{"tick 50", ended(55, 4)},
		say{"list a", entries(booked(2, "a", 1, 9, 11))},
	)
}

// P6: the time now and the MINUTES together at Horizon and one above.
func TestWaitUpToHorizon(t *testing.T) {
	d := deskOf(t, "thing a 1", "book a 1 0 10")
	wantReplies(t, d,
		say{"wait a 1 0 1 1048321", api.Reply{Err: api.ErrWord, At: 5}},
		say{"wait a 1 0 1 0", api.Reply{Err: api.ErrWord, At: 5}},
		say{"wait a 1 0 1 1048320", number(2)},
		say{"tick 1000", ended(1000)},
		say{"wait a 1 0 1 1047321", refusal(api.ErrTime)},
		say{"wait a 1 20 30 1047321", refusal(api.ErrTime)},
		say{"wait a 1 0 1 1047320", number(3)},
		say{"waiting", entries(waits(2, "a", 1, 0, 1, 1048320), waits(3, "a", 1, 0, 1, 1048320))},
		say{"tick 1047319", ended(1048319)},
		say{"wait a 1 0 1 2", refusal(api.ErrTime)},
		say{"wait a 1 0 1 1", number(4)},
		say{"tick 2", refusal(api.ErrTime)},
		say{"waiting", entries(waits(2, "a", 1, 0, 1, 1048320), waits(3, "a", 1, 0, 1, 1048320), waits(4, "a", 1, 0, 1, 1048320))},
		say{"tick 1", ended(1048320, 2, 3, 4)},
		say{"wait a 1 0 1 1", refusal(api.ErrTime)},
		say{"wait a 1 20 30 1", refusal(api.ErrTime)},
		say{"waiting", entries()},
		say{"list a", entries(booked(1, "a", 1, 0, 10))},
	)
}

// P6 and P1: of several errors that apply to wait the one named first is told, and nothing changes.
func TestFirstErrorOfWaits(t *testing.T) {
	d := deskOf(t, "thing a 2", "book a 2 10 20", "tick 100")
	first := []say{
		{"wait", api.Reply{Err: api.ErrWord, At: 1}}, {"wait a 1 10 20", api.Reply{Err: api.ErrWord, At: 5}}, {"wait a 1 10 20 5 5", api.Reply{Err: api.ErrWord, At: 6}},
		{"wait x 0 5 5 5", api.Reply{Err: api.ErrWord, At: 2}}, {"wait a 10 5 6 5", api.Reply{Err: api.ErrWord, At: 2}}, {"wait x 1 5 1048321 5", api.Reply{Err: api.ErrWord, At: 4}},
		{"wait x 9 5 5 1048320", refusal(api.ErrName)}, {"wait x 1 10 20 5", refusal(api.ErrName)},
		{"wait a 3 5 5 1048320", refusal(api.ErrUnits)}, {"wait a 3 10 20 1048320", refusal(api.ErrUnits)}, {"wait a 3 10 20 5", refusal(api.ErrUnits)},
		{"wait a 2 15 15 5", refusal(api.ErrTime)}, {"wait a 2 16 15 5", refusal(api.ErrTime)}, {"wait a 2 15 16 1048221", refusal(api.ErrTime)},
		{"wait a 2 15 15 1048320", refusal(api.ErrTime)}, {"wait a 1 30 40 1048221", refusal(api.ErrTime)},
	}
	var queue []api.Entry
	unchanged := func(says ...say) {
		t.Helper()
		for _, s := range says {
			wantReplies(t, d, s, say{"waiting", entries(queue...)}, say{"list a", entries(booked(1, "a", 2, 10, 20))}, say{"clock", number(100)})
		}
	}
	unchanged(first...)
	for id := 2; id <= api.MaxId; id++ {
		wantReplies(t, d, say{"wait a 1 15 16 1048220", number(id)})
		if id <= api.MaxId-api.MaxWaiting {
			wantReplies(t, d, say{fmt.Sprint("cancel ", id), number(0)})
		} else {
			queue = append(queue, waits(id, "a", 1, 15, 16, api.Horizon))
		}
	}
	unchanged(first...)
	unchanged(say{"wait a 1 15 16 5", refusal(api.ErrFull)}, say{"wait a 1 30 40 5", refusal(api.ErrFull)}, say{"wait a 1 30 40 1048220", refusal(api.ErrFull)})
}

// P6: MaxWaiting of a desk wait, and one more is refused, also one that would fit, till one of them waits no more.
func TestMaxWaiting(t *testing.T) {
	d := deskOf(t, "thing a 1", "thing b 1", "book a 1 0 100")
	for i := range api.MaxWaiting {
		wantReplies(t, d, say{fmt.Sprint("wait a 1 ", i, " ", i+1, " 50"), number(i + 2)})
	}
	full := func() {
		t.Helper()
		for _, line := range []string{"wait a 1 10 11 50", "wait a 1 200 201 50", "wait b 1 0 1 50"} {
			wantReplies(t, d, say{line, refusal(api.ErrFull)})
		}
	}
	full()
	wantReplies(t, d,
		say{"book a 1 200 201", number(8)}, say{"hold b 1 0 5 60", number(9)},
		say{"cancel 3", number(0)}, say{"wait b 1 0 1 1", number(10)},
	)
	full()
	wantReplies(t, d, say{"tick 1", ended(1, 10)}, say{"wait b 1 6 7 1", granted(11, 11)}, say{"wait b 1 0 1 50", number(12)})
	full()
	wantReplies(t, d, say{"cancel 1", granted(0, 2, 4, 5, 6, 7)}, say{"waiting", entries(waits(12, "b", 1, 0, 1, 51))})
	for i := range api.MaxWaiting - 1 {
		wantReplies(t, d, say{"wait b 1 0 5 50", number(13 + i)})
	}
	wantReplies(t, d, say{"wait a 1 10 11 50", refusal(api.ErrFull)}, say{"wait b 1 0 1 50", refusal(api.ErrFull)})
}

// P5 and P6: MaxId numbers and one more, given away by wait; the last who waits is booked all the same.
func TestNumbersOfWaits(t *testing.T) {
	d := deskOf(t, "thing a 1", "book a 1 0 10")
	for id := 2; id < api.MaxId; id++ {
		wantReplies(t, d,
			say{"wait a 2 0 1 1", refusal(api.ErrUnits)},
			say{"wait a 1 0 1 1", number(id)},
			say{fmt.Sprint("cancel ", id), number(0)},
		)
	}
	wantReplies(t, d,
		say{"wait a 1 0 5 20", number(api.MaxId)},
		say{"wait a 1 0 1 1", refusal(api.ErrFull)},
		say{"wait a 1 50 51 1", refusal(api.ErrFull)},
		say{"book a 1 50 51", refusal(api.ErrFull)},
		say{"waiting", entries(waits(api.MaxId, "a", 1, 0, 5, 20))},
		say{"cancel 1", granted(0, api.MaxId)},
		say{"list a", entries(booked(api.MaxId, "a", 1, 0, 5))},
		say{fmt.Sprint("cancel ", api.MaxId), number(0)},
		say{"wait a 1 0 1 1", refusal(api.ErrFull)},
	)
}

// P7: confirm of who waits is refused; who waited and ended has no number any more.
func TestConfirmOfWaiters(t *testing.T) {
	d := deskOf(t, "thing a 1", "book a 1 0 10", "wait a 1 0 5 10")
	wantReplies(t, d,
		say{"confirm 2", refusal(api.ErrState)},
		say{"confirm 3", refusal(api.ErrId)},
		say{"waiting", entries(waits(2, "a", 1, 0, 5, 10))},
		say{"list a", entries(booked(1, "a", 1, 0, 10))},
		say{"tick 10", ended(10, 2)},
		say{"confirm 2", refusal(api.ErrId)},
		say{"cancel 2", refusal(api.ErrId)},
		say{"cancel 1", number(0)},
		say{"list a", entries()},
	)
}

// P7: who waits and is cancelled goes, gives no room back, is not booked and does not end.
func TestCancelOfWaiters(t *testing.T) {
	d := deskOf(t, "thing a 1", "book a 1 0 10", "wait a 1 0 5 10", "wait a 1 0 6 10", "wait a 1 6 7 10")
	wantReplies(t, d,
		say{"cancel 3", number(0)},
		say{"cancel 3", refusal(api.ErrId)},
		say{"confirm 3", refusal(api.ErrId)},
		say{"waiting", entries(waits(2, "a", 1, 0, 5, 10), waits(4, "a", 1, 6, 7, 10))},
		say{"peak a 0 6", number(1)},
		say{"book a 1 0 6", refusal(api.ErrBusy)},
		say{"cancel 2", number(0)},
		say{"tick 5", ended(5)},
		say{"cancel 1", granted(0, 4)},
		say{"list a", entries(booked(4, "a", 1, 6, 7))},
		say{"tick 10", ended(15)},
		say{"cancel 4", number(0)},
		say{"waiting", entries()},
		say{"peak a 0 1048320", number(0)},
	)
}

// P8 and P9: who waits ends ahead of there being room, or at the very time at which it comes, or does not.
func TestWaitersEnd(t *testing.T) {
	lines := []string{"thing a 1", "hold a 1 0 10 10", "wait a 1 0 5 9", "wait a 1 0 5 10", "wait a 1 0 5 11"}
	wantReplies(t, deskOf(t, lines...),
		say{"tick 8", ended(8)},
		say{"tick 1", ended(9, 2)},
		say{"waiting", entries(waits(3, "a", 1, 0, 5, 10), waits(4, "a", 1, 0, 5, 11))},
		say{"tick 1", ticked(10, []int{1, 3}, []int{4})},
		say{"waiting", entries()},
		say{"tick 1", ended(11)},
		say{"list a", entries(booked(4, "a", 1, 0, 5))},
	)
	wantReplies(t, deskOf(t, lines...), say{"tick 100", ticked(100, []int{2, 1, 3}, []int{4})}, say{"list a", entries(booked(4, "a", 1, 0, 5))})
}

// P8: at one time who waits and what is held end in the order of their numbers.
func TestEndsOfHoldsAndWaiters(t *testing.T) {
	d := deskOf(t, "thing a 2", "book a 1 0 10", "wait a 2 0 5 20", "hold a 1 0 10 20", "wait a 2 0 5 10", "hold a 1 10 20 10", "tick 5", "wait a 2 3 4 15")
	wantReplies(t, d, say{"tick 4", ended(9)}, say{"tick 90", ended(99, 4, 5, 2, 3, 6)}, say{"list a", entries(booked(1, "a", 1, 0, 10))}, say{"waiting", entries()})
}

// P9: those who wait are looked at in the order in which they came: who does not fit is passed over, and who is booked takes what later ones wait for.
func TestOrderOfComing(t *testing.T) {
	d := deskOf(t, "thing a 3", "book a 3 0 100", "wait a 2 0 50 90", "wait a 3 0 10 80", "wait a 1 40 60 70", "wait a 1 45 50 60")
	wantReplies(t, d,
		say{"waiting", entries(waits(2, "a", 2, 0, 50, 90), waits(3, "a", 3, 0, 10, 80), waits(4, "a", 1, 40, 60, 70), waits(5, "a", 1, 45, 50, 60))},
		say{"cancel 1", granted(0, 2, 4)},
		say{"list a", entries(booked(2, "a", 2, 0, 50), booked(4, "a", 1, 40, 60))},
		say{"waiting", entries(waits(3, "a", 3, 0, 10, 80), waits(5, "a", 1, 45, 50, 60))},
		say{"cancel 4", granted(0, 5)},
		say{"cancel 2", granted(0, 3)},
		say{"list a", entries(booked(3, "a", 3, 0, 10), booked(5, "a", 1, 45, 50))},
		say{"waiting", entries()},
	)
	same := deskOf(t, "thing a 1", "book a 1 0 9", "wait a 1 0 9 30", "wait a 1 0 9 20", "wait a 1 0 9 10")
	wantReplies(t, same, say{"cancel 1", granted(0, 2)}, say{"cancel 2", granted(0, 3)}, say{"tick 10", ended(10, 4)}, say{"cancel 3", number(0)})
}

// P9: who waits for different things.
func TestWaitForDifferentThings(t *testing.T) {
	d := deskOf(t, "thing a 1", "thing b 2", "book a 1 0 10", "book b 2 0 10", "wait b 1 0 5 50", "wait a 1 0 5 50", "wait b 1 0 5 50", "wait b 1 0 5 50")
	wantReplies(t, d,
		say{"cancel 2", granted(0, 3, 5)},
		say{"waiting", entries(waits(4, "a", 1, 0, 5, 50), waits(6, "b", 1, 0, 5, 50))},
		say{"list b", entries(booked(3, "b", 1, 0, 5), booked(5, "b", 1, 0, 5))},
		say{"cancel 1", granted(0, 4)},
		say{"list a", entries(booked(4, "a", 1, 0, 5))},
		say{"cancel 3", granted(0, 6)},
	)
	two := deskOf(t, "thing a 1", "thing b 1", "hold a 1 0 10 5", "hold b 1 0 10 5", "wait b 1 0 5 50", "wait a 1 0 5 50")
	wantReplies(t, two, say{"tick 5", ticked(5, []int{1, 2}, []int{3, 4})})
}

// P8 and P9: within a tick those who wait are looked at behind each time at which something ended, and end at their own time, however the time is cut into ticks.
func TestTicksThatGrant(t *testing.T) {
	for _, step := range []int{1, 2, 5, 8, 40} {
		d := deskOf(t, "thing a 1", "hold a 1 0 10 10", "hold a 1 10 20 20", "hold a 1 20 30 30",
			"wait a 1 15 25 100", "wait a 1 5 15 100", "wait a 1 0 5 100", "wait a 1 0 10 25", "wait a 1 20 22 29")
		var got api.Reply
		for range 40 / step {
			r := d.Do(fmt.Sprint("tick ", step))
			got = ticked(r.N, append(got.Ended, r.Ended...), append(got.Granted, r.Granted...))
		}
		if want := ticked(40, []int{1, 2, 7, 8, 3}, []int{6, 5, 4}); !sameReply(got, want) {
			t.Errorf("P9: ticks by %d tell %+v, want %+v", step, got, want)
		}
		wantReplies(t, d, say{"list a", entries(booked(6, "a", 1, 0, 5), booked(5, "a", 1, 5, 15), booked(4, "a", 1, 15, 25))}, say{"waiting", entries()})
	}
	// Who came later fits at an earlier time, and then takes what who came earlier waits for.
	d := deskOf(t, "thing a 1", "hold a 1 0 100 10", "hold a 1 100 200 20", "wait a 1 50 150 30", "wait a 1 90 100 30")
	wantReplies(t, d, say{"tick 25", ticked(25, []int{1, 2}, []int{4})}, say{"waiting", entries(waits(3, "a", 1, 50, 150, 30))}, say{"cancel 4", granted(0, 3)})
}

// P9: all that ends at a time has ended ahead of looking.
func TestAllEndsAheadOfLooking(t *testing.T) {
	d := deskOf(t, "thing a 1", "hold a 1 0 10 5", "hold a 1 10 20 5", "wait a 1 5 15 50", "wait a 1 0 10 50", "wait a 1 0 5 5")
	wantReplies(t, d,
		say{"tick 5", ticked(5, []int{1, 2, 5}, []int{3})},
		say{"waiting", entries(waits(4, "a", 1, 0, 10, 50))},
		say{"list a", entries(booked(3, "a", 1, 5, 15))},
	)
}

// P8 and P9: who is granted within a tick is told as granted alone, is booked, and does not end, also where their own time lies within the tick.
func TestGrantedWithinATick(t *testing.T) {
	for _, until := range []int{6, 7, 100, 500} {
		d := deskOf(t, "thing a 1", "hold a 1 0 10 5", fmt.Sprint("wait a 1 0 10 ", until))
		wantReplies(t, d,
			say{"tick 100", ticked(100, []int{1}, []int{2})},
			say{"list a", entries(booked(2, "a", 1, 0, 10))},
			say{"confirm 2", refusal(api.ErrState)},
			say{"tick 1000", ended(1100)},
			say{"list a", entries(booked(2, "a", 1, 0, 10))},
			say{"cancel 2", number(0)},
			say{"cancel 2", refusal(api.ErrId)},
		)
	}
}

// P9: room that comes by a cancel, of whatever it was, and by the end of a hold, but not by a confirm.
func TestRoomThatComes(t *testing.T) {
	for _, c := range []struct {
		taker, line string
		want        api.Reply
	}{
		{"book a 1 0 2000", "cancel 1", granted(0, 2)},
		{"hold a 1 0 2000 10", "cancel 1", granted(0, 2)},
		{"series a 1 daily 1 from 2024-01-01 at 00:00 for 10 times 3", "cancel 1", granted(0, 2)},
		{"wait a 1 0 2000 10", "cancel 1", granted(0, 2)},
		{"hold a 1 0 2000 10", "tick 10", ticked(10, []int{1}, []int{2})},
	} {
		d := deskOf(t, "thing a 1", c.taker, "wait a 1 1445 1446 50")
		wantReplies(t, d, say{"waiting", entries(waits(2, "a", 1, 1445, 1446, 50))}, say{c.line, c.want}, say{"list a", entries(booked(2, "a", 1, 1445, 1446))})
	}
	d := deskOf(t, "thing a 1", "hold a 1 0 2000 10", "wait a 1 1445 1446 50")
	wantReplies(t, d, say{"confirm 1", number(0)}, say{"tick 50", ended(50, 2)}, say{"list a", entries(booked(1, "a", 1, 0, 2000))})
}

// P9 and P1: a line that is refused, and one that makes no room, grants nobody; what is refused changes nothing.
func TestLinesThatGrantNobody(t *testing.T) {
	d := deskOf(t, "thing a 1", "tick 10", "hold a 1 0 10 5", "book a 1 10 20", "wait a 1 0 5 9", "wait a 1 15 18 8")
	three, four := waits(3, "a", 1, 0, 5, 19), waits(4, "a", 1, 15, 18, 18)
	for _, s := range []say{
		{"cancel 5", refusal(api.ErrId)}, {"cancel x", api.Reply{Err: api.ErrWord, At: 1}}, {"confirm 2", refusal(api.ErrState)}, {"confirm 3", refusal(api.ErrState)},
		{"tick 1048311", refusal(api.ErrTime)}, {"tick", api.Reply{Err: api.ErrWord, At: 1}}, {"thing a 1", refusal(api.ErrTwice)},
		{"book a 1 0 5", refusal(api.ErrBusy)}, {"hold a 1 0 5 9", refusal(api.ErrBusy)}, {"wait a 2 0 5 9", refusal(api.ErrUnits)},
		{"series a 1 daily 1 from 2024-01-01 at 00:00 for 1 times 2", refusal(api.ErrBusy)}, {"", api.Reply{Err: api.ErrWord}},
		{"clock", number(10)}, {"peak a 0 20", number(1)}, {"find a 1 5 0 20", number(-1)}, {"expand daily 1 from 2024-01-01 at 00:00 for 1 times 2", daysTold(0, 1)},
	} {
		wantReplies(t, d, s, say{"waiting", entries(three, four)}, say{"list a", entries(held(1, "a", 1, 0, 10, 15), booked(2, "a", 1, 10, 20))})
	}
	wantReplies(t, d,
		say{"thing b 1", number(0)},
		say{"book b 1 0 20", number(5)},
		say{"hold a 1 20 30 1", number(6)},
		say{"series a 1 daily 1 from 2024-01-02 at 00:00 for 1 times 2", number(7)},
		say{"cancel 5", number(0)},
		say{"tick 1", ended(11, 6)},
		say{"waiting", entries(three, four)},
		say{"cancel 1", granted(0, 3)},
		say{"cancel 2", granted(0, 4)},
	)
}

// P2: writing into those who were told to wait, spare room too, changes nothing else.
func TestWaitingIsTheCallers(t *testing.T) {
	d := deskOf(t, "thing a 1", "book a 1 0 100", "wait a 1 0 10 50", "wait a 1 10 20 51", "wait a 1 20 30 52")
	want := entries(waits(2, "a", 1, 0, 10, 50), waits(3, "a", 1, 10, 20, 51), waits(4, "a", 1, 20, 30, 52))
	first, other := d.Do("waiting"), d.Do("waiting")
	for i := range first.Entries {
		scribble(&first.Entries[i])
		if rest := first.Entries[i+1:]; !slices.EqualFunc(rest, want.Entries[i+1:], sameEntry) {
			t.Errorf("P2: writing into entry %d changes others to %+v", i, rest)
		}
	}
	room := first.Entries[:cap(first.Entries)]
	for i := range room {
		room[i] = api.Entry{Id: 77, Thing: "x"}
	}
	wantReplies(t, d,
		say{"waiting", want},
		say{"cancel 1", granted(0, 2, 3, 4)},
		say{"list a", entries(booked(2, "a", 1, 0, 10), booked(3, "a", 1, 10, 20), booked(4, "a", 1, 20, 30))},
		say{"peak a 30 1048320", number(0)},
	)
	if !sameReply(other, want) {
		t.Errorf("P2: writing into one answer, or a later line, changes another to %+v", other)
	}
}

// fill writes into a list, spare room too.
func fill(list []int, n int) {
	room := list[:cap(list)]
	for i := range room {
		room[i] = n
	}
}

// P2: writing into the numbers that were granted or ended, spare room too, changes nothing else.
func TestGrantedIsTheCallers(t *testing.T) {
	d := deskOf(t, "thing a 9", "thing b 9", "hold a 9 0 10 5", "hold b 9 0 10 6", "hold b 9 10 20 7", "wait a 3 0 10 50", "wait a 3 0 10 50", "wait a 3 0 10 50", "wait b 9 0 10 50", "wait b 9 10 20 50")
	first := d.Do("tick 10")
	if want := ticked(10, []int{1, 2, 3}, []int{4, 5, 6, 7, 8}); !sameReply(first, want) {
		t.Fatalf("P9: %+v, want %+v", first, want)
	}
	fill(first.Granted, 77)
	if !slices.Equal(first.Ended, []int{1, 2, 3}) {
		t.Errorf("P2: writing into Granted changes Ended to %v", first.Ended)
	}
	fill(first.Ended, 88)
	if slices.ContainsFunc(first.Granted, func(n int) bool { return n != 77 }) {
		t.Errorf("P2: writing into Ended changes Granted to %v", first.Granted)
	}
	wantReplies(t, d, say{"wait b 9 5 15 20", number(9)}, say{"wait b 9 0 10 30", number(10)}, say{"cancel 8", number(0)})
	second := d.Do("cancel 7")
	fill(first.Granted, 99)
	if !sameReply(second, granted(0, 9)) {
		t.Errorf("P2: %+v, want 9 granted", second)
	}
	fill(second.Granted, 66)
	wantReplies(t, d,
		say{"waiting", entries(waits(10, "b", 9, 0, 10, 40))},
		say{"cancel 9", granted(0, 10)},
		say{"list b", entries(booked(10, "b", 9, 0, 10))},
		say{"list a", entries(booked(4, "a", 3, 0, 10), booked(5, "a", 3, 0, 10), booked(6, "a", 3, 0, 10))},
	)
	if slices.ContainsFunc(first.Granted, func(n int) bool { return n != 99 }) || slices.ContainsFunc(first.Ended, func(n int) bool { return n != 88 }) {
		t.Errorf("P2: later lines write into an answer: %+v", first)
	}
}

// P2: who waits at one desk does not wait at another.
func TestWaitersAreApart(t *testing.T) {
	a, b := deskOf(t, "thing a 1", "hold a 1 0 10 5", "wait a 1 0 10 9"), deskOf(t, "thing a 1", "book a 1 0 10", "wait a 1 5 10 7")
	wantReplies(t, a, say{"tick 5", ticked(5, []int{1}, []int{2})}, say{"waiting", entries()})
	wantReplies(t, b, say{"waiting", entries(waits(2, "a", 1, 5, 10, 7))}, say{"clock", number(0)})
	for range api.MaxWaiting - 1 {
		b.Do("wait a 1 0 10 9")
	}
	wantReplies(t, a, say{"wait a 1 0 10 5", number(3)}, say{"waiting", entries(waits(3, "a", 1, 0, 10, 10))})
	wantReplies(t, b, say{"wait a 1 0 10 5", refusal(api.ErrFull)}, say{"tick 7", ended(7, 2)}, say{"cancel 1", granted(0, 3)})
	wantReplies(t, a, say{"waiting", entries(waits(3, "a", 1, 0, 10, 10))}, say{"cancel 2", granted(0, 3)})
	wantReplies(t, bookings.New(), say{"waiting", entries()})
}
