package bookings_test

import (
	"fmt"
	"math/rand"
	"strings"
	"testing"
	"time"

	"bookings/api"
	"bookings/bookings"
)

// One line of each kind, and of each shape that a kind has, in its plain form.
var plainLines = []string{
	"thing room 2",
	"book room 2 2024-01-02/09:30 2024-01-02/10:30",
	"hold room 2 2024-01-02/09:30 2024-01-02/10:30 15",
	"wait room 2 2024-01-02/09:30 2024-01-02/10:30 15",
	"series room 2 daily 3 from 2024-01-02 at 08:15 for 45 times 7",
	"series room 2 daily 3 from 2024-01-02 at 08:15 for 45 until 2024-06-30",
	"series room 2 weekly 3 mo,fr from 2024-01-02 at 08:15 for 45 times 7",
	"series room 2 weekly 3 mo,fr from 2024-01-02 at 08:15 for 45 until 2024-06-30",
	"series room 2 monthly 3 from 2024-01-02 at 08:15 for 45 times 7",
	"series room 2 monthly 3 from 2024-01-02 at 08:15 for 45 until 2024-06-30",
	"confirm 12",
	"cancel 12",
	"list room",
	"list room 2024-01-02/09:30 2024-01-02/10:30",
	"waiting",
	"peak room 2024-01-02/09:30 2024-01-02/10:30",
	"find room 2 15 2024-01-02/09:30 2024-01-02/10:30",
	"expand daily 3 from 2024-01-02 at 08:15 for 45 times 7",
	"expand daily 3 from 2024-01-02 at 08:15 for 45 until 2024-06-30",
	"expand weekly 3 mo,fr from 2024-01-02 at 08:15 for 45 times 7",
	"expand weekly 3 mo,fr from 2024-01-02 at 08:15 for 45 until 2024-06-30",
	"expand monthly 3 from 2024-01-02 at 08:15 for 45 times 7",
	"expand monthly 3 from 2024-01-02 at 08:15 for 45 until 2024-06-30",
	"tick 15",
	"clock",
}

func wantPlain(t *testing.T, line string, want string) {
	t.Helper()
	if got, err, at := bookings.Plain(line); got != want || err != api.OK || at != 0 {
		t.Errorf("P4: Plain(%q) = %q, %d, %d, want %q, OK, 0", line, got, err, at, want)
	}
}

func wantWrong(t *testing.T, line string, word int) {
	t.Helper()
	if got, err, at := bookings.Plain(line); got != "" || err != api.ErrWord || at != word {
		t.Errorf("P4: Plain(%q) = %q, %d, %d, want ErrWord at %d", line, got, err, at, word)
	}
}

// P4: the plain form is its own plain form, whatever blanks stand between its words.
func TestPlainOfEachKind(t *testing.T) {
	for _, line := range plainLines {
		wantPlain(t, line, line)
		wantPlain(t, "  "+strings.ReplaceAll(line, " ", "   ")+" ", line)
	}
}

// P4: in each kind of line, at each place: a word that can't stand there, whatever follows it.
func TestWrongWordAtEachPlace(t *testing.T) {
	for _, line := range plainLines {
		words := strings.Fields(line)
		for i := range words {
			for _, wrong := range []string{"?", words[i] + "?", "?" + words[i], words[i] + "\t", "-1", "\xff", "\x00", strings.ToUpper(words[i]) + "A"} {
				changed := append([]string(nil), words...)
				changed[i] = wrong
				wantWrong(t, strings.Join(changed, " "), i)
				for j := i + 1; j < len(changed); j++ {
					changed[j] = "?"
				}
				wantWrong(t, strings.Join(changed, " "), i)
				wantWrong(t, strings.Join(changed[:i+1], " "), i)
			}
		}
	}
}

// P4: in each kind of line, at each place: the word that is missing.
func TestMissingWordAtEachPlace(t *testing.T) {
	for _, line := range plainLines {
		words := strings.Fields(line)
		for n := range words {
			short := strings.Join(words[:n], " ")
			if short == "list room" {
				continue
			}
			wantWrong(t, short, n)
			wantWrong(t, short+"  ", n)
		}
	}
}

// P4: in each kind of line: a word too many.
func TestWordTooMany(t *testing.T) {
	for _, line := range plainLines {
		count := len(strings.Fields(line))
		for _, more := range []string{"?", "clock", "a", "x 1 2"} {
			wantWrong(t, line+" "+more, count)
		}
		if line != "list room" {
			wantWrong(t, line+" 1", count)
			wantWrong(t, line+" 2024-01-01/00:00 2024-01-02/00:00", count)
		}
	}
	wantWrong(t, "list room 1", 3)
	wantWrong(t, "list room 1 2 3", 4)
}

// P4: a kind of line is known by its whole first word alone.
func TestFirstWord(t *testing.T) {
	for _, line := range []string{"", " ", strings.Repeat(" ", api.MaxLine), "x", "thin a 1", "things a 1", "Thing a 1", "1", "daily 1", "a thing 1", "\tclock", "clock\n", "clock\x00", "cl\x1fock", "cl\u00a0ock"} {
		wantWrong(t, line, 0)
	}
	wantWrong(t, "cl ock", 0)
	wantWrong(t, "wait", 1)
	wantPlain(t, "waiting", "waiting")
}

// P4: MaxLine bytes and one more; length goes ahead of words, and counts bytes.
func TestLongLine(t *testing.T) {
	for _, line := range plainLines {
		full := line + strings.Repeat(" ", api.MaxLine-len(line))
		wantPlain(t, full, line)
		wantPlain(t, full[len(line):]+line, line)
		wantLong(t, full+" ")
		wantLong(t, " "+full)
	}
	wantWrong(t, strings.Repeat("x", api.MaxLine), 0)
	wantLong(t, strings.Repeat("x", api.MaxLine+1))
	wantLong(t, strings.Repeat(" ", api.MaxLine+1))
	wantLong(t, strings.Repeat("\u00e9", api.MaxLine/2)+"x")
	wantLong(t, strings.Repeat("clock ", 1000000))
	most := strings.Repeat("x ", api.MaxLine/2)
	wantWrong(t, most, 0)
	wantWrong(t, "clock "+most[len("clock "):], 1)
}

func wantLong(t *testing.T, line string) {
	t.Helper()
	if got, err, at := bookings.Plain(line); got != "" || err != api.ErrLong || at != 0 {
		t.Errorf("P4: Plain of %d bytes = %q, %d, %d, want ErrLong, 0", len(line), got, err, at)
	}
}

// place is where words of one kind stand in lines: what is ahead of them and behind.
type place struct {
	ahead, behind string
}

func (p place) allow(t *testing.T, word string, plain string) {
	t.Helper()
	wantPlain(t, p.ahead+word+p.behind, p.ahead+plain+p.behind)
}

func (p place) refuse(t *testing.T, words ...string) {
	t.Helper()
	for _, word := range words {
		wantWrong(t, p.ahead+word+p.behind, len(strings.Fields(p.ahead)))
	}
}

const (
	zero = "2024-01-01/00:00"
	rule = " from 2024-01-01 at 08:00 for 60 times 3"
)

var badNums = []string{"00000000", "00000001", "12345678", "99999999999999999999", "18446744073709551617", "-1", "+1", "-0", "1.0", "1e1", "0x1", "1_0", "1,", "a", "1a", "a1", "\u0661", "1\t", "\uff11"}

// P4: a NUM as such is the ID of confirm and cancel.
func TestNum(t *testing.T) {
	for _, p := range []place{{"confirm ", ""}, {"cancel ", ""}} {
		for _, c := range [][2]string{{"0", "0"}, {"0000000", "0"}, {"1", "1"}, {"0000001", "1"}, {"007", "7"}, {"70", "70"}, {"0100", "100"}, {"61", "61"}, {"1048321", "1048321"}, {"9999999", "9999999"}} {
			p.allow(t, c[0], c[1])
		}
		p.refuse(t, badNums...)
	}
}

// P4: the NUMs that have bounds, wherever they stand.
func TestBoundedNums(t *testing.T) {
	units := []place{{"thing a ", ""}, {"book a ", " " + zero + " " + zero}, {"hold a ", " " + zero + " " + zero + " 1"}, {"wait a ", " " + zero + " " + zero + " 1"}, {"series a ", " daily 1" + rule}, {"find a ", " 1 " + zero + " " + zero}}
	minutes := []place{{"hold a 1 " + zero + " " + zero + " ", ""}, {"wait a 1 " + zero + " " + zero + " ", ""}, {"find a 1 ", " " + zero + " " + zero}, {"tick ", ""}, {"expand daily 1 from 2024-01-01 at 08:00 for ", " times 3"}, {"series a 1 monthly 1 from 2024-01-01 at 08:00 for ", " until 2024-01-01"}}
	every := []place{{"expand daily ", rule}, {"expand weekly ", " mo" + rule}, {"expand monthly ", rule}, {"series a 1 daily ", rule}, {"series a 1 weekly ", " mo" + rule}, {"series a 1 monthly ", rule}}
	times := []place{{"expand daily 1 from 2024-01-01 at 08:00 for 60 times ", ""}, {"series a 1 weekly 1 mo from 2024-01-01 at 08:00 for 60 times ", ""}}
	for _, c := range []struct {
		places []place
		most   int
	}{{units, 9}, {minutes, 1048320}, {every, 99}, {times, 99}} {
		for _, p := range c.places {
			p.allow(t, "1", "1")
			p.allow(t, "0000001", "1")
			p.allow(t, fmt.Sprint(c.most), fmt.Sprint(c.most))
			p.allow(t, fmt.Sprintf("%07d", c.most), fmt.Sprint(c.most))
			p.refuse(t, "0", "0000000", fmt.Sprint(c.most+1), "9999999", zero)
			p.refuse(t, badNums...)
		}
	}
}

// P4: a NAME is one to MaxName letters, and may be a word that lines use.
func TestName(t *testing.T) {
	for _, p := range []place{{"thing ", " 1"}, {"book ", " 1 " + zero + " " + zero}, {"hold ", " 1 " + zero + " " + zero + " 1"}, {"wait ", " 1 " + zero + " " + zero + " 1"}, {"series ", " 1 daily 1" + rule}, {"list ", ""}, {"list ", " " + zero + " " + zero}, {"peak ", " " + zero + " " + zero}, {"find ", " 1 1 " + zero + " " + zero}} {
		for _, name := range []string{"a", "z", "az", "abcdefgh", "zzzzzzzz", "list", "clock", "mo", "daily"} {
			p.allow(t, name, name)
		}
		p.refuse(t, "abcdefghi", "A", "Room", "rooM", "a1", "1", "a-b", "a_b", "`", "{", "a`", "a{", "\u00e9", "a\u00e9", "\xff", "a\t", "a\x00")
	}
}

// P4: a DATE, held against the library's calendar over years around the horizon.
func TestEachDate(t *testing.T) {
	places := []place{{"expand daily 1 from ", " at 08:00 for 60 times 3"}, {"series a 1 daily 1 from 2024-01-01 at 08:00 for 60 until ", ""}}
	first := time.Date(2024, 1, 1, 0, 0, 0, 0, time.UTC)
	last := time.Date(2025, 12, 28, 0, 0, 0, 0, time.UTC)
	for year := 2022; year <= 2027; year++ {
		for month := 0; month <= 13; month++ {
			for day := 0; day <= 32; day++ {
				word := fmt.Sprintf("%04d-%02d-%02d", year, month, day)
				when, err := time.Parse("2006-01-02", word)
				for _, p := range places {
					if err == nil && !when.Before(first) && !when.After(last) {
						p.allow(t, word, word)
					} else {
						p.refuse(t, word)
					}
				}
			}
		}
	}
	for _, p := range places {
		p.refuse(t, "0000-00-00", "0001-01-01", "9999-12-31", "2024-1-01", "2024-01-1", "24-01-01", "02024-01-01", "2024-001-01", "2024-01-001", "2024/01/01", "2024/01-01", "2024-01/01", "20240101", "2024-01-01-", "-024-01-01", "2024--1-01", "2024-01--1", "2024-+1-01", "2024-01-0a", "202a-01-01", "0", "1", "2024-01-01/00:00", "mo")
	}
}

// P4: a MINUTE: each two digits, a colon and two digits.
func TestEachMinute(t *testing.T) {
	p := place{"expand daily 1 from 2024-01-01 at ", " for 60 times 3"}
	for hour := range 100 {
		for minute := range 100 {
			word := fmt.Sprintf("%02d:%02d", hour, minute)
			if hour < 24 && minute < 60 {
				p.allow(t, word, word)
			} else {
				p.refuse(t, word)
			}
		}
	}
	p.refuse(t, "0:00", "00:0", "000:00", "00:000", "0000", "00-00", "00.00", "-1:00", "00:-1", "+1:00", "0a:00", "00:a0", ":", "00:", ":00", "8", "00:00:00", "2024-01-01/00:00")
}

func timePlaces() []place {
	var places []place
	for _, p := range []place{{"book a 1", ""}, {"hold a 1", " 1"}, {"wait a 1", " 1"}, {"list a", ""}, {"peak a", ""}, {"find a 1 1", ""}} {
		places = append(places, place{p.ahead + " ", " " + zero + p.behind}, place{p.ahead + " " + zero + " ", p.behind})
	}
	return places
}

func timeWord(minutes int) string {
	return time.Date(2024, 1, 1, 0, minutes, 0, 0, time.UTC).Format("2006-01-02/15:04")
}

// P4: a TIME as a NUM and as DATE/MINUTE, up to Horizon, at each place of a TIME.
func TestTime(t *testing.T) {
	for _, p := range timePlaces() {
		for _, n := range []int{0, 1, 59, 60, 1439, 1440, 2000, 84959, 84960, 86399, 86400, 525600, 527039, 527040, 1048319, 1048320} {
			p.allow(t, fmt.Sprint(n), timeWord(n))
			p.allow(t, fmt.Sprintf("%07d", n), timeWord(n))
			p.allow(t, timeWord(n), timeWord(n))
		}
		p.allow(t, "1048320", "2025-12-29/00:00")
		p.refuse(t, "1048321", "1048322", "9999999", timeWord(-1), timeWord(-1440), timeWord(1048321), timeWord(1048379), timeWord(1048320+1440))
		p.refuse(t, badNums...)
		p.refuse(t, "2024-01-01", "00:00", "/", "2024-01-01/", "/00:00", "2024-01-01/24:00", "2024-01-01/00:60", "2024-02-30/00:00", "2025-02-29/00:00", "2024-00-01/00:00", "2024-13-01/00:00", "2024-01-00/00:00", "2024-01-01/0:00", "2024-01-01/00:0", "2024-01-01-00:00", "2024-01-01T00:00", "2024-01-01//00:00", "2024-01-01/00:00/", "2024-01-01/00:00/00:00", "0/00:00", "2024-01-01/0", "0001-01-01/00:00", "9999-12-31/23:59", "0000-01-01/00:00")
	}
}

// P4: each day of the horizon at its first and last minute, and each minute of a day.
func TestTimesOfTheHorizon(t *testing.T) {
	p := place{"list a ", " " + zero}
	for day := range api.Days {
		for _, n := range []int{day * api.DayMinutes, day*api.DayMinutes + 1439} {
			p.allow(t, fmt.Sprint(n), timeWord(n))
		}
	}
	for n := 59 * api.DayMinutes; n < 60*api.DayMinutes; n++ {
		p.allow(t, fmt.Sprint(n), timeWord(n))
	}
}

// P4: ON: each row of days that are none twice, told in the order of the week.
func TestEachOn(t *testing.T) {
	week := []string{"mo", "tu", "we", "th", "fr", "sa", "su"}
	places := []place{{"expand weekly 1 ", rule}, {"series a 1 weekly 1 ", rule}}
	for set := 1; set < 1<<7; set++ {
		var days []string
		for i, day := range week {
			if set&(1<<i) != 0 {
				days = append(days, day)
			}
		}
		plain := strings.Join(days, ",")
		random := rand.New(rand.NewSource(int64(set)))
		for range 10 {
			random.Shuffle(len(days), func(i, j int) { days[i], days[j] = days[j], days[i] })
			on := strings.Join(days, ",")
			for _, p := range places {
				p.allow(t, on, plain)
				p.refuse(t, on+","+days[0], days[len(days)-1]+","+on, on+",", ","+on, on+",xx", on+"mo")
			}
		}
	}
	for _, p := range places {
		p.refuse(t, "mo,mo", "mo,tu,mo", "mo,,tu", ",", "mo,", ",mo", "momo", "motu", "m", "mon", "Mo", "MO", "mo;tu", "mo.tu", "mo,\ttu", "daily", "1", "0", "from")
		wantWrong(t, p.ahead+"mo, tu"+p.behind, len(strings.Fields(p.ahead)))
		wantWrong(t, p.ahead+"mo ,tu"+p.behind, len(strings.Fields(p.ahead))+1)
	}
}

// P4: the words of a rule stand in their order, and only weekly has ON.
func TestRuleWords(t *testing.T) {
	wantWrong(t, "expand", 1)
	wantWrong(t, "expand yearly 1"+rule, 1)
	wantWrong(t, "expand 1 daily"+rule, 1)
	wantWrong(t, "expand daily"+rule, 2)
	wantWrong(t, "expand daily 1 mo"+rule, 3)
	wantWrong(t, "expand monthly 1 mo"+rule, 3)
	wantWrong(t, "expand weekly 1"+rule, 3)
	wantWrong(t, "expand weekly mo 1"+rule, 2)
	wantWrong(t, "expand daily 1 at 08:00 from 2024-01-01 for 60 times 3", 3)
	wantWrong(t, "expand daily 1 from 2024-01-01 for 60 at 08:00 times 3", 5)
	wantWrong(t, "expand daily 1 from 2024-01-01 at 08:00 for 60 for 60", 9)
	wantWrong(t, "expand daily 1 from 2024-01-01 at 08:00 for 60 times 2024-01-01", 10)
	wantWrong(t, "expand daily 1 from 2024-01-01 at 08:00 for 60 until 3", 10)
	wantWrong(t, "expand daily 1 from 2024-01-01 at 08:00 for 60 until 2025-12-29", 10)
	wantWrong(t, "expand daily 1 from 2024-01-01 at 08:00 for 60 times 3 until 2024-01-01", 11)
	wantWrong(t, "expand room 1 daily 1"+rule, 1)
	wantWrong(t, "series daily 1"+rule, 3)
}

// P4: what is only the desk's affair is none of Plain's.
func TestPlainAsksNoDesk(t *testing.T) {
	wantPlain(t, "book  room 02 2024-01-02/09:30 2000", "book room 2 2024-01-02/09:30 2024-01-02/09:20")
	wantPlain(t, "list nothing 5 5", "list nothing 2024-01-01/00:05 2024-01-01/00:05")
	wantPlain(t, "expand daily 99 from 2025-12-28 at 23:59 for 1048320 until 2024-01-01", "expand daily 99 from 2025-12-28 at 23:59 for 1048320 until 2024-01-01")
}

// P1 and P4: any bytes and any row of known words get one of the three answers, the same
// each time; a plain form is its own and is no longer than a line may be.
func TestPlainOfAnything(t *testing.T) {
	random := rand.New(rand.NewSource(1))
	known := strings.Fields(strings.Join(plainLines, " ") + " 0 1 99 100 1048320 \xff ? mo , /")
	for range 200000 {
		line := anyBytes(random)
		if random.Intn(2) == 0 {
			line = anyWords(random, known)
		}
		plain, err, at := bookings.Plain(line)
		if again, err2, at2 := bookings.Plain(line); again != plain || err2 != err || at2 != at {
			t.Fatalf("P2: Plain(%q) answers differently the second time", line)
		}
		checkAnswer(t, line, plain, err, at)
	}
}

func anyBytes(random *rand.Rand) string {
	bytes := make([]byte, random.Intn(api.MaxLine+5))
	for i := range bytes {
		bytes[i] = byte(random.Intn(256))
		if random.Intn(4) == 0 {
			bytes[i] = ' '
		}
	}
	return string(bytes)
}

func anyWords(random *rand.Rand, known []string) string {
	words := strings.Fields(plainLines[random.Intn(len(plainLines))])
	for range random.Intn(3) {
		words[random.Intn(len(words))] = known[random.Intn(len(known))]
	}
	return strings.Join(words, strings.Repeat(" ", 1+random.Intn(3)))
}

func checkAnswer(t *testing.T, line string, plain string, err api.Errno, at int) {
	t.Helper()
	switch {
	case len(line) > api.MaxLine:
		wantLong(t, line)
	case err == api.OK:
		wantPlain(t, plain, plain)
		if plain == "" || len(plain) > api.MaxLine || at != 0 {
			t.Errorf("P4: Plain(%q) = %q, OK, %d", line, plain, at)
		}
	case err != api.ErrWord || plain != "" || at < 0 || at > strings.Count(line, " ")+1:
		t.Errorf("P4: Plain(%q) = %q, %d, %d", line, plain, err, at)
	}
}
