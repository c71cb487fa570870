package lines

import (
	"testing"

	"bookings/api"
)

const tail = " from 2024-01-02 at 08:30 for 60 times 3"

func claim(name string, units, from, to int) Claim {
	return Claim{Name: name, Units: units, Span: api.Span{From: from, To: to}}
}

// P4 and the section Ways: each kind of line is a type of its own, with what its words say.
func TestKinds(t *testing.T) {
	rule := Rule{Pace: Daily, Every: 2, From: 1, At: 510, Minutes: 60, Times: 3}
	weekly := rule
	weekly.Pace, weekly.On = Weekly, Weekdays{0: true, 6: true}
	monthly := rule
	monthly.Pace, monthly.Times, monthly.Until = Monthly, 0, api.Days-1
	for _, c := range []struct {
		text string
		line Line
	}{
		{"thing room 2", Thing{"room", 2}},
		{"book room 1 3 5", Book{claim("room", 1, 3, 5)}},
		{"hold room 1 3 5 7", Hold{claim("room", 1, 3, 5), 7}},
		{"wait room 1 3 5 7", Wait{claim("room", 1, 3, 5), 7}},
		{"series room 1 daily 2" + tail, Series{"room", 1, rule}},
		{"confirm 4", Confirm{4}},
		{"cancel 4", Cancel{4}},
		{"list room", List{Name: "room"}},
		{"list room 0 0", List{Name: "room", Within: true}},
		{"list room 3 5", List{"room", true, api.Span{From: 3, To: 5}}},
		{"waiting", Waiting{}},
		{"peak room 3 5", Peak{"room", api.Span{From: 3, To: 5}}},
		{"find room 1 7 3 5", Find{"room", 1, 7, api.Span{From: 3, To: 5}}},
		{"expand daily 2" + tail, Expand{rule}},
		{"expand weekly 2 su,mo" + tail, Expand{weekly}},
		{"expand monthly 2 from 2024-01-02 at 08:30 for 60 until 2025-12-28", Expand{monthly}},
		{"tick 7", Tick{7}},
		{"clock", Clock{}},
	} {
		line, err, at := Read(c.text)
		if line != c.line || err != api.OK || at != 0 {
			t.Errorf("Read(%q) = %#v, %d, %d, want %#v", c.text, line, err, at, c.line)
		}
	}
}

func TestNoLine(t *testing.T) {
	for _, c := range []struct {
		text string
		err  api.Errno
		at   int
	}{
		{"", api.ErrWord, 0}, {"book room", api.ErrWord, 2}, {"clock now", api.ErrWord, 1},
		{string(make([]byte, api.MaxLine+1)), api.ErrLong, 0},
	} {
		if line, err, at := Read(c.text); line != nil || err != c.err || at != c.at {
			t.Errorf("Read(%q) = %#v, %d, %d, want %d, %d", c.text, line, err, at, c.err, c.at)
		}
	}
}
