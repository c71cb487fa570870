package bookings_test

import (
	"cmp"
	"fmt"
	"slices"
	"testing"

	"bookings/api"
	"bookings/bookings"
)

func held(id int, thing string, units, from, to, until int) api.Entry {
	e := booked(id, thing, units, from, to)
	e.Kind, e.Until = api.Held, until
	return e
}

// ended is the answer to a tick.
func ended(now int, ids ...int) api.Reply { return api.Reply{N: now, Ended: ids} }

// P6, P8: the document's example, without the one who waits.
func TestExampleOfHolds(t *testing.T) {
	d := deskOf(t, "thing room 2", "book room 2 0 100", "book room 1 100 200")
	wantReplies(t, d,
		say{"hold room 1 100 200 30", number(3)},
		say{"list room", entries(booked(1, "room", 2, 0, 100), booked(2, "room", 1, 100, 200), held(3, "room", 1, 100, 200, 30))},
		say{"cancel 1", number(0)},
		say{"peak room 0 1000", number(2)},
		say{"tick 30", ended(30, 3)},
		say{"clock", number(30)},
		say{"cancel 2", number(0)},
		say{"list room", entries()},
	)
}

// P5 and P6: what is held is taken, counts for find and peak, and has a number as the others have.
func TestHoldTakes(t *testing.T) {
	d := deskOf(t, "thing a 3")
	wantReplies(t, d,
		say{"hold a 2 10 20 5", number(1)},
		say{"book a 2 15 25", refusal(api.ErrBusy)},
		say{"hold a 2 19 20 5", refusal(api.ErrBusy)},
		say{"series a 2 daily 1 from 2024-01-01 at 00:19 for 1 times 2", refusal(api.ErrBusy)},
		say{"hold a 1 15 25 7", number(2)},
		say{"peak a 0 100", number(3)},
		say{"find a 1 1 12 100", number(12)}, say{"find a 1 1 15 100", number(20)}, say{"find a 3 1 0 25", number(0)}, say{"find a 3 11 0 100", number(25)},
		say{"series a 2 daily 1 from 2024-01-01 at 00:20 for 1 times 2", number(3)},
		say{"book a 1 0 15", number(4)},
		say{"tick 5", ended(5, 1)},
		say{"peak a 10 20", number(1)},
		say{"book a 2 10 20", number(5)},
		say{"tick 2", ended(7, 2)},
		say{"list a 15 20", entries(booked(5, "a", 2, 10, 20))},
		say{"peak a 15 20", number(2)},
	)
}

// P6: the time now and the MINUTES together at Horizon and one above, from the time 0, a later one, and Horizon.
func TestHoldUpToHorizon(t *testing.T) {
	d := deskOf(t, "thing a 1")
	wantReplies(t, d,
		say{"hold a 1 0 1 1048320", number(1)},
		say{"hold a 1 1 2 1048321", api.Reply{Err: api.ErrWord, At: 5}},
		say{"hold a 1 1 2 0", api.Reply{Err: api.ErrWord, At: 5}},
		say{"tick 1000", ended(1000)},
		say{"hold a 1 1 2 1047321", refusal(api.ErrTime)},
		say{"hold a 1 1 2 1048320", refusal(api.ErrTime)},
		say{"hold a 1 1 2 1047320", number(2)},
		say{"list a", entries(held(1, "a", 1, 0, 1, 1048320), held(2, "a", 1, 1, 2, 1048320))},
		say{"tick 1047319", ended(1048319)},
		say{"hold a 1 2 3 2", refusal(api.ErrTime)},
		say{"hold a 1 2 3 1", number(3)},
		say{"tick 2", refusal(api.ErrTime)},
		say{"clock", number(1048319)},
		say{"tick 1", ended(1048320, 1, 2, 3)},
		say{"hold a 1 0 1 1", refusal(api.ErrTime)},
		say{"tick 1", refusal(api.ErrTime)},
		say{"tick 1048320", refusal(api.ErrTime)},
		say{"clock", number(1048320)},
		say{"list a", entries()},
		say{"book a 1 0 1048320", number(4)},
	)
}

// P6 and P1: of several errors that apply to a hold the one named first is told, and nothing changes.
func TestFirstErrorOfHolds(t *testing.T) {
	d := deskOf(t, "thing a 2", "book a 2 10 20", "tick 100")
	first := []say{
		{"hold x 9 5 5 1048320", refusal(api.ErrName)}, {"hold x 1 10 20 5", refusal(api.ErrName)},
		{"hold a 3 5 5 1048320", refusal(api.ErrUnits)}, {"hold a 3 10 20 1048320", refusal(api.ErrUnits)}, {"hold a 3 10 20 5", refusal(api.ErrUnits)},
		{"hold a 2 15 15 5", refusal(api.ErrTime)}, {"hold a 2 16 15 5", refusal(api.ErrTime)}, {"hold a 2 15 16 1048221", refusal(api.ErrTime)},
		{"hold a 2 15 15 1048320", refusal(api.ErrTime)},
	}
	for _, s := range append(first, say{"hold a 1 15 16 5", refusal(api.ErrBusy)}, say{"hold a 1 15 16 1048220", refusal(api.ErrBusy)}) {
		wantReplies(t, d, s, say{"list a", entries(booked(1, "a", 2, 10, 20))}, say{"clock", number(100)}, say{"peak a 20 1048320", number(0)})
	}
	for i := 2; i <= api.MaxId; i++ {
		wantReplies(t, d, say{"hold a 1 20 30 1", number(i)}, say{"tick 1", ended(99+i, i)})
	}
	wantReplies(t, d, first...)
	wantReplies(t, d,
		say{"hold a 1 15 16 5", refusal(api.ErrFull)},
		say{"hold a 1 50 60 5", refusal(api.ErrFull)},
		say{"book a 1 50 60", refusal(api.ErrFull)},
		say{"tick 1000", ended(1159)},
		say{"list a", entries(booked(1, "a", 2, 10, 20))},
	)
}

// P7: confirm: what is held is booked, and does not end; its errors.
func TestConfirm(t *testing.T) {
	d := deskOf(t, "thing a 5", "book a 1 0 10", "hold a 1 0 20 5", "hold a 1 0 30 5", "hold a 1 0 40 5", "series a 1 daily 1 from 2024-01-01 at 00:00 for 9 times 1")
	all := entries(booked(1, "a", 1, 0, 10), held(2, "a", 1, 0, 20, 5), held(3, "a", 1, 0, 30, 5), held(4, "a", 1, 0, 40, 5), booked(5, "a", 1, 0, 9))
	for _, s := range []say{
		{"confirm 0", refusal(api.ErrId)}, {"confirm 6", refusal(api.ErrId)}, {"confirm 9999999", refusal(api.ErrId)},
		{"confirm 1", refusal(api.ErrState)}, {"confirm 5", refusal(api.ErrState)},
		{"confirm", api.Reply{Err: api.ErrWord, At: 1}}, {"confirm 2 3", api.Reply{Err: api.ErrWord, At: 2}}, {"confirm -2", api.Reply{Err: api.ErrWord, At: 1}},
	} {
		wantReplies(t, d, s, say{"list a", all})
	}
	all.Entries[2] = booked(3, "a", 1, 0, 30)
	wantReplies(t, d,
		say{"confirm 003", number(0)},
		say{"list a", all},
		say{"peak a 0 1", number(5)},
		say{"confirm 3", refusal(api.ErrState)},
		say{"tick 4", ended(4)},
		say{"confirm 2", number(0)},
		say{"tick 1", ended(5, 4)},
		say{"confirm 4", refusal(api.ErrId)},
		say{"confirm 2", refusal(api.ErrState)},
		say{"tick 1000000", ended(1000005)},
		say{"list a", entries(booked(1, "a", 1, 0, 10), booked(2, "a", 1, 0, 20), booked(3, "a", 1, 0, 30), booked(5, "a", 1, 0, 9))},
		say{"cancel 3", number(0)},
		say{"confirm 3", refusal(api.ErrId)},
	)
}

// P7 and P8: a hold that was cancelled ahead of its end gives its room back, and does not end.
func TestCancelOfHolds(t *testing.T) {
	d := deskOf(t, "thing a 2", "hold a 2 0 10 5", "hold a 2 10 20 5", "hold a 2 20 30 6")
	wantReplies(t, d,
		say{"cancel 1", number(0)},
		say{"cancel 1", refusal(api.ErrId)},
		say{"confirm 1", refusal(api.ErrId)},
		say{"peak a 0 10", number(0)},
		say{"hold a 2 0 10 7", number(4)},
		say{"confirm 3", number(0)},
		say{"cancel 3", number(0)},
		say{"tick 10", ended(10, 2, 4)},
		say{"cancel 2", refusal(api.ErrId)},
		say{"cancel 4", refusal(api.ErrId)},
		say{"list a", entries()},
		say{"peak a 0 1048320", number(0)},
	)
}

// P8: the time now, of ticks that are done and of those that are refused.
func TestTicks(t *testing.T) {
	d := bookings.New()
	wantReplies(t, d,
		say{"clock", number(0)},
		say{"tick 1", ended(1)}, say{"clock", number(1)},
		say{"tick 0", api.Reply{Err: api.ErrWord, At: 1}}, say{"tick 1048321", api.Reply{Err: api.ErrWord, At: 1}}, say{"tick", api.Reply{Err: api.ErrWord, At: 1}},
		say{"tick -1", api.Reply{Err: api.ErrWord, At: 1}}, say{"tick 1 1", api.Reply{Err: api.ErrWord, At: 2}},
		say{"tick 1048320", refusal(api.ErrTime)}, say{"clock", number(1)},
		say{"tick 0099", ended(100)}, say{"clock", number(100)},
		say{"tick 1048221", refusal(api.ErrTime)}, say{"clock", number(100)},
		say{"tick 1048220", ended(1048320)}, say{"clock", number(1048320)},
		say{"tick 1", refusal(api.ErrTime)}, say{"clock", number(1048320)},
	)
	wantReplies(t, bookings.New(), say{"tick 1048320", ended(1048320)}, say{"clock", number(1048320)})
}

// P8 and P1: a tick that is refused ends nothing.
func TestTickThatIsRefused(t *testing.T) {
	d := deskOf(t, "thing a 1", "tick 10", "hold a 1 0 10 5")
	wantReplies(t, d,
		say{"tick 1048311", refusal(api.ErrTime)},
		say{"list a", entries(held(1, "a", 1, 0, 10, 15))},
		say{"clock", number(10)},
		say{"confirm 1", number(0)},
	)
}

// P8: several holds that end at one time, or at different times within one tick, are told in the order of time and numbers.
func TestEndsInOrder(t *testing.T) {
	d := deskOf(t, "thing a 9", "hold a 1 0 10 30", "hold a 1 0 10 20", "hold a 1 0 10 30", "hold a 1 0 10 10", "hold a 1 0 10 20", "tick 5", "hold a 1 0 10 5", "hold a 1 0 10 25")
	wantReplies(t, d,
		say{"tick 4", ended(9)},
		say{"peak a 0 10", number(7)},
		say{"tick 1", ended(10, 4, 6)},
		say{"peak a 0 10", number(5)},
		say{"tick 9", ended(19)},
		say{"tick 11", ended(30, 2, 5, 1, 3, 7)},
		say{"tick 100", ended(130)},
		say{"peak a 0 10", number(0)},
	)
}

// P8: as many holds as there are numbers, by one tick and minute by minute.
func TestManyHolds(t *testing.T) {
	for _, step := range []int{1, 3, 1000} {
		d := deskOf(t, "thing a 9")
		var want []api.Entry
		for i := range api.MaxId {
			until := 1 + i*17%23
			wantReplies(t, d, say{fmt.Sprint("hold a 9 ", i, " ", i+1, " ", until), number(i + 1)})
			switch i % 10 {
			case 3:
				wantReplies(t, d, say{fmt.Sprint("confirm ", i+1), number(0)})
			case 7:
				wantReplies(t, d, say{fmt.Sprint("cancel ", i+1), number(0)})
			default:
				want = append(want, held(i+1, "a", 9, i, i+1, until))
			}
		}
		slices.SortFunc(want, func(a, b api.Entry) int { return cmp.Or(a.Until-b.Until, a.Id-b.Id) })
		for now := step; len(want) > 0; now += step {
			var ids []int
			for len(want) > 0 && want[0].Until <= now {
				ids = append(ids, want[0].Id)
				want = want[1:]
			}
			wantReplies(t, d, say{fmt.Sprint("tick ", step), ended(now, ids...)})
		}
		if left := d.Do("list a").Entries; len(left) != api.MaxId/10 {
			t.Errorf("P8: %d are left", len(left))
		}
	}
}

// P2: writing into the numbers that were told, spare room too, changes nothing else.
func TestEndedIsTheCallers(t *testing.T) {
	d := deskOf(t, "thing a 9")
	for range 6 {
		d.Do("hold a 1 0 10 5")
	}
	for range 3 {
		d.Do("hold a 1 0 10 6")
	}
	first := d.Do("tick 5")
	room := first.Ended[:cap(first.Ended)]
	for i := range room {
		room[i] = 77
	}
	second := d.Do("tick 1")
	if !sameReply(second, ended(6, 7, 8, 9)) {
		t.Errorf("P2: writing into one answer changes another to %+v", second)
	}
	for i := range room {
		room[i] = 88
	}
	d.Do("hold a 1 0 10 1")
	wantReplies(t, d, say{"tick 1", ended(7, 10)})
	if !sameReply(second, ended(6, 7, 8, 9)) || slices.ContainsFunc(room, func(n int) bool { return n != 88 }) {
		t.Errorf("P2: answers share memory: %v, %+v", room, second)
	}
}

// P2: the clock of one desk, its holds and its series are not those of another.
func TestClocksAreApart(t *testing.T) {
	a, b := deskOf(t, "thing a 1", "hold a 1 0 10 5"), deskOf(t, "thing a 1", "hold a 1 0 20 5")
	wantReplies(t, a, say{"tick 5", ended(5, 1)}, say{"series a 1 daily 1 from 2024-01-01 at 00:00 for 5 times 2", number(2)})
	wantReplies(t, b, say{"clock", number(0)}, say{"list a", entries(held(1, "a", 1, 0, 20, 5))}, say{"confirm 2", refusal(api.ErrId)}, say{"confirm 1", number(0)})
	wantReplies(t, b, say{"tick 9", ended(9)}, say{"list a", entries(booked(1, "a", 1, 0, 20))})
	wantReplies(t, a, say{"clock", number(5)}, say{"confirm 1", refusal(api.ErrId)}, say{"hold a 1 5 10 5", number(3)}, say{"peak a 0 5000", number(1)})
	wantReplies(t, b, say{"tick 1", ended(10)}, say{"cancel 1", number(0)})
	wantReplies(t, a, say{"tick 5", ended(10, 3)}, say{"peak a 0 5", number(1)})
}
