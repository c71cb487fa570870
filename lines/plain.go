package lines

import (
	"strconv"
	"strings"

	"bookings/api"
	"bookings/calendar"
)

// Plain tells a line that was read in its plain form.
func Plain(line Line) string {
	return strings.Join(line.plainWords(), " ")
}

func (l Thing) plainWords() []string {
	return []string{"thing", l.Name, num(l.Units)}
}

func (l Book) plainWords() []string {
	return claimWords("book", l.Claim)
}

func (l Hold) plainWords() []string {
	return append(claimWords("hold", l.Claim), num(l.Minutes))
}

func (l Wait) plainWords() []string {
	return append(claimWords("wait", l.Claim), num(l.Minutes))
}

func (l Series) plainWords() []string {
	return append([]string{"series", l.Name, num(l.Units)}, ruleWords(l.Rule)...)
}

func (l Confirm) plainWords() []string {
	return []string{"confirm", num(l.Id)}
}

func (l Cancel) plainWords() []string {
	return []string{"cancel", num(l.Id)}
}

func (l List) plainWords() []string {
	words := []string{"list", l.Name}
	if l.Within {
		words = append(words, timeWord(l.Span.From), timeWord(l.Span.To))
	}
	return words
}

func (l Waiting) plainWords() []string {
	return []string{"waiting"}
}

func (l Peak) plainWords() []string {
	return []string{"peak", l.Name, timeWord(l.Span.From), timeWord(l.Span.To)}
}

func (l Find) plainWords() []string {
	return []string{"find", l.Name, num(l.Units), num(l.Minutes), timeWord(l.Span.From), timeWord(l.Span.To)}
}

func (l Expand) plainWords() []string {
	return append([]string{"expand"}, ruleWords(l.Rule)...)
}

func (l Tick) plainWords() []string {
	return []string{"tick", num(l.Minutes)}
}

func (l Clock) plainWords() []string {
	return []string{"clock"}
}

func claimWords(kind string, c Claim) []string {
	return []string{kind, c.Name, num(c.Units), timeWord(c.Span.From), timeWord(c.Span.To)}
}

func ruleWords(rule Rule) []string {
	words := paceWords(rule)
	words = append(words, "from", dateWord(rule.From), "at", minuteWord(rule.At), "for", num(rule.Minutes))
	if rule.Times > 0 {
		return append(words, "times", num(rule.Times))
	}
	return append(words, "until", dateWord(rule.Until))
}

func paceWords(rule Rule) []string {
	switch rule.Pace {
	case Weekly:
		return []string{"weekly", num(rule.Every), onWord(rule.On)}
	case Monthly:
		return []string{"monthly", num(rule.Every)}
	}
	return []string{"daily", num(rule.Every)}
}

func onWord(on Weekdays) string {
	var names []string
	for day := range len(on) {
		if on[day] {
			names = append(names, weekdays[day])
		}
	}
	return strings.Join(names, ",")
}

func timeWord(time int) string {
	return dateWord(time/api.DayMinutes) + "/" + minuteWord(time%api.DayMinutes)
}

func dateWord(day int) string {
	year, month, date, _ := calendar.Date(day)
	return padded(year, 4) + "-" + padded(month, 2) + "-" + padded(date, 2)
}

func minuteWord(minute int) string {
	return padded(minute/60, 2) + ":" + padded(minute%60, 2)
}

func num(n int) string {
	return strconv.Itoa(n)
}

func padded(n int, width int) string {
	text := num(n)
	for len(text) < width {
		text = "0" + text
	}
	return text
}
